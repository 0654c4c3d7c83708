/-
  The law SchemaFinds: for every schema and number, in every world.
-/
import Derived.Test.YtiifkcemieblkaaSchAwake
import Derived.Test.YtiifkcemieblkaaFldRefs
namespace Go.Proofs.Ytiifkcemieblkaa
open Go.RowKit

set_option maxRecDepth 100000 in
set_option maxHeartbeats 3200000 in
theorem sfinds_long (st v : Int) (A : Option Addr) (len cap : Nat) (no : Int) (w : World) (h : 300 < len) :
    Calls Try.prog 4 #[.agg #[.int .i64 st, .int .i64 v, .slice A len cap], .int .i64 no] w fun e w' => e = .returned (.bool true) ∧ Below w.heap.size w w' := by
  have t : decide ((300 : Int) < (len : Int)) = true := by simp; omega
  clear h
  go_enter Try.func4, Try.ntmps4
  go_wp2_with fail
  refine (scawake_any _).mono ?_
  rintro e w1 ⟨rfl, hb1⟩
  obtain ⟨b0, b1, b2⟩ := obj_cells3 ((box_new w st v A len cap).below hb1)
  have HB1 := Lib.hid (hbt (below_al _ _) hb1)
  clear hb1
  go_wp2_with fail
  refine (scawake_any _).mono ?_
  rintro e w2 ⟨rfl, hb2⟩
  have HB2 := Lib.hid (hbt HB1.out hb2)
  clear hb2 b0 b1 b2
  go_wp2
  go_ret
  exact ⟨rfl, HB2.out⟩
/-- What the walk is told: a found spec, with its place, or none. -/
def Told (w : World) (A : Option Addr) (len : Nat) (x : Sp) (ok : Bool) (i : Int) : Prop := (x = noSp ∧ ok = false ∧ i = -1) ∨ (∃ (k : Nat) (a : Addr), k < len ∧ i = (k : Int) ∧ ok = true ∧ A = some a ∧ SpAt w (a.add (k * 5)) x)

set_option maxRecDepth 100000 in
set_option maxHeartbeats 6400000 in
theorem sfinds_short (st v : Int) (A : Option Addr) (cap : Nat) (l : List Sp) (no : Int) (w : World) (hI : Spl w A l) (h : ¬ 300 < l.length) :
    Calls Try.prog 4 #[.agg #[.int .i64 st, .int .i64 v, .slice A l.length cap], .int .i64 no] w fun e w' => e = .returned (.bool true) ∧ Below w.heap.size w w' := by
  have t : decide ((300 : Int) < (l.length : Int)) = false := by simp; omega
  have hn : l.length ≤ 1000 := by omega
  have HI := Lib.hid hI
  have HF := Lib.hid (fun A' c' W hW => sfind_any st v A' c' l no W hW hn)
  have HK := Lib.hid (fun W hW => sreffind_any st v A cap l no W hW hn)
  have HY := Lib.hid (fun W hW => scopy_any st v A cap l W hW hn)
  have HN := Lib.hid (fun W hW => snumbers_any st v A cap l W hW hn)
  have HH := Lib.hid (fun A' c' W hW => refHalves_any A' c' (nosOf l) W hW (by rw [nos_length]; exact hn))
  have HS := Lib.hid (fun A' c' W hW => sset_any st v A' c' l W hW hn)
  have HBT := Lib.hid (fun W => bits_any (ofH (nosOf l)) (ofL (nosOf l)) W)
  have HTD : Hid (∀ W, Spl W A l → Told W A l.length (fndP no l).1 (fndP no l).2 (fndI no 0 l)) := fun W hW => by
    rcases fnd_rel no l 0 with ⟨h1, h2⟩ | ⟨k, hk, h1, h2⟩
    · rw [h1, h2]; exact .inl ⟨rfl, rfl, rfl⟩
    · obtain ⟨a, ha, hc⟩ := hW k hk
      rw [h1, h2]
      exact .inr ⟨k, a, hk, by simp, rfl, ha, hc⟩
  clear h hI hn
  unfold setV at *
  generalize (fndP no l).1 = x at *
  generalize (fndP no l).2 = ok at *
  generalize fndI no 0 l = i at *
  generalize ofH (nosOf l) = hh at *
  generalize ofL (nosOf l) = hl at *
  generalize hnl : (nosOf l).length = nl at *
  clear hnl
  generalize l.length = len at *
  obtain ⟨n, c, f, lo, hi⟩ := x
  have HF1 : Hid (∀ A' c' W, Spl W A' l → Calls Try.prog 12 #[.agg #[.int .i64 st, .int .i64 v, .slice A' len c'], .int .i64 no] W fun e w' => e = .returned (.tuple #[.agg #[.int .i64 n, .int .i64 c, .int .i64 f, .int .i64 lo, .int .i64 hi], .bool ok]) ∧ Below W.heap.size W w') := HF.out
  clear HF
  go_enter Try.func4, Try.ntmps4
  go_wp2_with fail
  refine (scawake_any _).mono ?_
  rintro e w1 ⟨rfl, hb1⟩
  have HX1 := Lib.hid ((box_new w st v A len cap).below hb1)
  have HB1 := Lib.hid (hbt (below_al _ _) hb1)
  obtain ⟨b0, b1, b2⟩ := obj_cells3 HX1.out
  clear hb1
  go_wp2_with fail
  refine (HY.out _ (HI.out.below HB1.out)).mono ?_
  rintro e w2 ⟨A2, c2, rfl, ht2, hb2⟩
  have HT2 := Lib.hid ht2
  have HX2 := Lib.hid (HX1.out.below hb2)
  have HB2 := Lib.hid (hbt HB1.out hb2)
  clear hb2 ht2 b0 b1 b2
  go_wp2_with fail
  refine (HF1.out _ _ _ HT2.out).mono ?_
  rintro e w3 ⟨rfl, hb3⟩
  have HX3 := Lib.hid ((HX2.out.below hb3).below (below_al w3 (.cells #[.int .i64 n, .int .i64 c, .int .i64 f, .int .i64 lo, .int .i64 hi] 34)))
  have HB3 := Lib.hid (hbt (hbt HB2.out hb3) (below_al w3 (.cells #[.int .i64 n, .int .i64 c, .int .i64 f, .int .i64 lo, .int .i64 hi] 34)))
  have HZ3 := Lib.hid (heap_alloc_new w3 (.cells #[.int .i64 n, .int .i64 c, .int .i64 f, .int .i64 lo, .int .i64 hi] 34))
  obtain ⟨b0, b1, b2⟩ := obj_cells3 (HX2.out.below hb3)
  have hz3 := obj_lt (HX2.out.below hb3)
  clear hb3
  go_wp2_with fail
  generalize w3.alloc (.cells #[.int .i64 n, .int .i64 c, .int .i64 f, .int .i64 lo, .int .i64 hi] 34) = W3 at *
  refine (HK.out _ (HI.out.below HB3.out)).mono ?_
  rintro e w4 ⟨rfl, hb4⟩
  have HX4 := Lib.hid (HX3.out.below hb4)
  have HB4 := Lib.hid (hbt HB3.out hb4)
  have HZ4 := Lib.hid (obj_below HZ3.out hb4)
  clear hb4 b0 b1 b2 hz3
  generalize w3.heap.size = gx at *
  obtain ⟨b0, b1, b2⟩ := obj_cells3 HX4.out
  go_wp2_with fail
  refine (HN.out _ (HI.out.below HB4.out)).mono ?_
  rintro e w5 ⟨A5, c5, rfl, ht5, hb5⟩
  have HT5 := Lib.hid ht5
  have HX5 := Lib.hid (HX4.out.below hb5)
  have HB5 := Lib.hid (hbt HB4.out hb5)
  have HZ5 := Lib.hid (obj_below HZ4.out hb5)
  clear hb5 ht5 b0 b1 b2
  go_wp2_with fail
  refine (HH.out _ _ _ HT5.out).mono ?_
  rintro e w6 ⟨rfl, rfl⟩
  obtain ⟨b0, b1, b2⟩ := obj_cells3 HX5.out
  go_wp2_with fail
  refine (HY.out _ (HI.out.below HB5.out)).mono ?_
  rintro e w7 ⟨A7, c7, rfl, ht7, hb7⟩
  have HT7 := Lib.hid ht7
  have HX7 := Lib.hid (HX5.out.below hb7)
  have HB7 := Lib.hid (hbt HB5.out hb7)
  have HZ7 := Lib.hid (obj_below HZ5.out hb7)
  clear hb7 ht7 b0 b1 b2
  go_wp2_with fail
  refine (HS.out _ _ _ HT7.out).mono ?_
  rintro e w8 ⟨rfl, hb8⟩
  have HX8 := Lib.hid (HX7.out.below hb8)
  have HB8 := Lib.hid (hbt HB7.out hb8)
  have HZ8 := Lib.hid (obj_below HZ7.out hb8)
  clear hb8
  go_wp2_with fail
  refine (HBT.out _).mono ?_
  rintro e w9 ⟨rfl, hb9⟩
  have HX9 := Lib.hid (HX8.out.below hb9)
  have HB9 := Lib.hid (hbt HB8.out hb9)
  have HZ9 := Lib.hid (obj_below HZ8.out hb9)
  clear hb9
  obtain ⟨b0, b1, b2⟩ := obj_cells3 HX9.out
  obtain ⟨d0, d1, d2, d3, d4⟩ := obj_cells5 HZ9.out
  rcases HTD.out w9 (HI.out.below HB9.out) with ⟨h1, rfl, rfl⟩ | ⟨k, a, hk, rfl, rfl, rfl, c0, c1, c2, c3, c4⟩
  · simp only [noSp, Prod.mk.injEq] at h1
    obtain ⟨rfl, rfl, rfl, rfl, rfl⟩ := h1
    go_wp2_with fail
    go_quiet (fail)
    go_wp2
    go_ret
    exact ⟨rfl, hbt HB9.out (below_drewN _ _)⟩
  · dsimp only at c0 c1 c2 c3 c4
    go_wp2_with fail
    go_quiet (fail)
    go_wp2
    go_ret
    exact ⟨rfl, hbt HB9.out (below_drewN _ _)⟩
theorem sfinds_walk (st v : Int) (A : Option Addr) (cap : Nat) (l : List Sp) (no : Int) (w : World) (hI : Spl w A l) (_hm : l.length ≤ maxLen) (_h1 : -9223372036854775808 ≤ no) (_h2 : no ≤ 9223372036854775807) :
    Calls Try.prog 4 #[.agg #[.int .i64 st, .int .i64 v, .slice A l.length cap], .int .i64 no] w fun e w' => e = .returned (.bool true) ∧ Below w.heap.size w w' := by
  by_cases h : 300 < l.length
  · exact sfinds_long st v A _ cap no w h
  · exact sfinds_short st v A cap l no w hI h

end Go.Proofs.Ytiifkcemieblkaa
