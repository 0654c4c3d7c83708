/-
  The law DialectFields: for every dialect and field, in every world in which the two tables hold the dialects' specs.
-/
import Derived.Test.YtbclaiaadeecfaaDoorDiaAwake
import Derived.Test.YtbclaiaadeecfaaDoorSchSame
namespace Go.Proofs.YtbclaiaadeecfaaDoor
open Go.RowKit

set_option maxRecDepth 100000 in
set_option maxHeartbeats 6400000 in
theorem dfields_miss (b : Bool) (no st v : Int) (L : List Sp) (hn : L.length ≤ 1000)
    (hof : ∀ w, Tabs w → Calls Tryd.prog 7 #[.bool b] w fun e w' => ∃ g A c,
      e = .returned (.tuple #[.agg #[.int .i64 st, .int .i64 v, .slice (some ⟨g, 0, none⟩) L.length L.length], .agg #[.int .i64 st, .int .i64 v, .slice A L.length c]]) ∧ Pair w L g A w')
    (h1 : fndP no L = (noSp, false)) (h2 : fndI no 0 L = -1) (w : World) (hT : Tabs w) :
    Calls Tryd.prog 3 #[.bool b, .int .i64 no] w fun e w' => e = .returned (.bool true) ∧ Below w.heap.size w w' := by
  have HOF := Lib.hid hof
  have HF := Lib.hid (fun A' c' W hW => sfind_any st v A' c' L no W hW hn)
  have HRF := Lib.hid (fun A' c' W hW => sreffind_any st v A' c' L no W hW hn)
  have HSM := Lib.hid (fun A' c' B' d' W h1 h2 => srsame_any st v A' c' L st v B' d' L W h1 h2 hn)
  rw [same_refl] at HSM
  rw [h1] at HF
  rw [h2] at HRF
  dsimp only [spV, noSp] at HF
  have HT := Lib.hid hT
  clear hof h1 h2 hT
  generalize L.length = len at *
  go_enter Tryd.func3, Tryd.ntmps3
  go_wp2_with fail
  refine (HOF.out _ HT.out).mono ?_
  rintro e w1 ⟨g, A, c, rfl, hp⟩
  have HW := Lib.hid (twins_new w1 st v (some ⟨g, 0, none⟩) len len st v A len c)
  have HS := Lib.hid (hp.spl.below HW.out.1)
  have HA := Lib.hid (hp.2.2.1.below HW.out.1)
  have HB := Lib.hid (hbt hp.2.2.2.2 HW.out.1)
  clear hp
  go_wp2_with fail
  generalize (w1.alloc (.cells #[.int .i64 st, .int .i64 v, .slice (some ⟨g, 0, none⟩) len len] 24)).alloc (.cells #[.int .i64 st, .int .i64 v, .slice A len c] 24) = U at *
  refine (HF.out _ _ _ HS.out).mono ?_
  rintro e w2 ⟨rfl, hb2⟩
  have HW2 := Lib.hid (HW.out.below hb2)
  have HX2 : Hid (Below U.heap.size U (w2.alloc (.cells #[.int .i64 0, .int .i64 0, .int .i64 0, .int .i64 0, .int .i64 0] 28))) := hbt hb2 (below_al _ _)
  clear hb2
  obtain ⟨b3, b4, b5⟩ := obj_cells3 HW2.out.2.2
  have hz := obj_lt HW2.out.2.2
  go_wp2_with fail
  refine (HRF.out _ _ _ (HA.out.below HX2.out)).mono ?_
  rintro e w3 ⟨rfl, hb3⟩
  have HX3 := Lib.hid (hbt HX2.out hb3)
  clear hb3 b3 b4 b5 hz
  go_wp2_with fail
  refine (dawake_any _ (HT.out.below (hbt HB.out HX3.out))).mono ?_
  rintro e w4 ⟨rfl, hb4⟩
  have HX4 := Lib.hid (hbt HX3.out hb4)
  have HW4 := Lib.hid (HW.out.below HX4.out)
  clear hb4
  obtain ⟨b0, b1, b2⟩ := obj_cells3 HW4.out.2.1
  obtain ⟨b3, b4, b5⟩ := obj_cells3 HW4.out.2.2
  go_wp2_with fail
  refine (HSM.out _ _ _ _ _ (HS.out.below HX4.out) (HA.out.below HX4.out)).mono ?_
  rintro e w5 ⟨rfl, hb5⟩
  have HX5 := Lib.hid (hbt HX4.out hb5)
  clear hb5 b0 b1 b2 b3 b4 b5
  go_wp2_with fail
  go_quiet (fail)
  go_wp2
  go_ret
  exact ⟨rfl, hbt (hbt HB.out HX5.out) (below_drewN _ _)⟩

set_option maxRecDepth 100000 in
set_option maxHeartbeats 6400000 in
theorem dfields_hit (b : Bool) (no st v : Int) (L : List Sp) (hn : L.length ≤ 1000)
    (hof : ∀ w, Tabs w → Calls Tryd.prog 7 #[.bool b] w fun e w' => ∃ g A c,
      e = .returned (.tuple #[.agg #[.int .i64 st, .int .i64 v, .slice (some ⟨g, 0, none⟩) L.length L.length], .agg #[.int .i64 st, .int .i64 v, .slice A L.length c]]) ∧ Pair w L g A w')
    (k : Nat) (hk : k < L.length) (n cl f lo hi : Int) (hx : spAt L k = (n, cl, f, lo, hi)) (h1 : fndP no L = (spAt L k, true)) (h2 : fndI no 0 L = (k : Int)) (w : World) (hT : Tabs w) :
    Calls Tryd.prog 3 #[.bool b, .int .i64 no] w fun e w' => e = .returned (.bool true) ∧ Below w.heap.size w w' := by
  have HOF := Lib.hid hof
  have HF := Lib.hid (fun A' c' W hW => sfind_any st v A' c' L no W hW hn)
  have HRF := Lib.hid (fun A' c' W hW => sreffind_any st v A' c' L no W hW hn)
  have HSM := Lib.hid (fun A' c' B' d' W h1 h2 => srsame_any st v A' c' L st v B' d' L W h1 h2 hn)
  rw [same_refl] at HSM
  rw [h1, hx] at HF
  rw [h2] at HRF
  dsimp only [spV] at HF
  have HT := Lib.hid hT
  have HAT := Lib.hid (fun (W : World) (A : Option Addr) (h : Spl W A L) => h.at_ hk)
  rw [hx] at HAT
  clear hof h1 h2 hT hx
  generalize L.length = len at *
  go_enter Tryd.func3, Tryd.ntmps3
  go_wp2_with fail
  refine (HOF.out _ HT.out).mono ?_
  rintro e w1 ⟨g, A, c, rfl, hp⟩
  have HW := Lib.hid (twins_new w1 st v (some ⟨g, 0, none⟩) len len st v A len c)
  have HS := Lib.hid (hp.spl.below HW.out.1)
  have HA := Lib.hid (hp.2.2.1.below HW.out.1)
  have HB := Lib.hid (hbt hp.2.2.2.2 HW.out.1)
  clear hp
  go_wp2_with fail
  generalize (w1.alloc (.cells #[.int .i64 st, .int .i64 v, .slice (some ⟨g, 0, none⟩) len len] 24)).alloc (.cells #[.int .i64 st, .int .i64 v, .slice A len c] 24) = U at *
  refine (HF.out _ _ _ HS.out).mono ?_
  rintro e w2 ⟨rfl, hb2⟩
  have HW2 := Lib.hid (HW.out.below hb2)
  have HX2 : Hid (Below U.heap.size U (w2.alloc (.cells #[.int .i64 n, .int .i64 cl, .int .i64 f, .int .i64 lo, .int .i64 hi] 28))) := hbt hb2 (below_al _ _)
  have HO2 := Lib.hid (heap_alloc_new w2 (.cells #[.int .i64 n, .int .i64 cl, .int .i64 f, .int .i64 lo, .int .i64 hi] 28))
  clear hb2
  obtain ⟨b3, b4, b5⟩ := obj_cells3 HW2.out.2.2
  have hz := obj_lt HW2.out.2.2
  go_wp2_with fail
  refine (HRF.out _ _ _ (HA.out.below HX2.out)).mono ?_
  rintro e w3 ⟨rfl, hb3⟩
  have HX3 := Lib.hid (hbt HX2.out hb3)
  have HO3 := Lib.hid (obj_below HO2.out hb3)
  clear hb3 b3 b4 b5 hz
  go_wp2_with fail
  refine (dawake_any _ (HT.out.below (hbt HB.out HX3.out))).mono ?_
  rintro e w4 ⟨rfl, hb4⟩
  have HX4 := Lib.hid (hbt HX3.out hb4)
  have HO4 := Lib.hid (obj_below HO3.out hb4)
  have HW4 := Lib.hid (HW.out.below HX4.out)
  clear hb4
  obtain ⟨b0, b1, b2⟩ := obj_cells3 HW4.out.2.1
  obtain ⟨b3, b4, b5⟩ := obj_cells3 HW4.out.2.2
  go_wp2_with fail
  refine (HSM.out _ _ _ _ _ (HS.out.below HX4.out) (HA.out.below HX4.out)).mono ?_
  rintro e w5 ⟨rfl, hb5⟩
  have HX5 := Lib.hid (hbt HX4.out hb5)
  have HO5 := Lib.hid (obj_below HO4.out hb5)
  have HW5 := Lib.hid (HW.out.below HX5.out)
  clear hb5 b0 b1 b2 b3 b4 b5
  obtain ⟨a, n', cl', f', lo', hi', rfl, hq, d0, d1, d2, d3, d4⟩ := HAT.out _ _ (HA.out.below HX5.out)
  simp only [Prod.mk.injEq] at hq
  obtain ⟨rfl, rfl, rfl, rfl, rfl⟩ := hq
  obtain ⟨b3, b4, b5⟩ := obj_cells3 HW5.out.2.2
  obtain ⟨x0, x1, x2, x3, x4⟩ := obj_cells5 HO5.out
  go_wp2_with fail
  go_quiet (fail)
  go_wp2
  go_ret
  exact ⟨rfl, hbt (hbt HB.out HX5.out) (below_drewN _ _)⟩

theorem dfields_walk (b : Bool) (no : Int) (w : World) (hT : Tabs w) (_h1 : -9223372036854775808 ≤ no) (_h2 : no ≤ 9223372036854775807) :
    Calls Tryd.prog 3 #[.bool b, .int .i64 no] w fun e w' => e = .returned (.bool true) ∧ Below w.heap.size w w' := by
  obtain ⟨st, v, L, _, hn, hof⟩ := dof_any b
  rcases fnd_rel no L 0 with ⟨h1, h2⟩ | ⟨k, hk, h1, h2⟩
  · exact dfields_miss b no st v L hn hof h1 h2 w hT
  · rw [Nat.zero_add] at h1
    obtain ⟨n, cl, f, lo, hi, hx⟩ : ∃ n cl f lo hi, spAt L k = (n, cl, f, lo, hi) := ⟨_, _, _, _, _, rfl⟩
    exact dfields_hit b no st v L hn hof k hk n cl f lo hi hx h2 h1 w hT

end Go.Proofs.YtbclaiaadeecfaaDoor
