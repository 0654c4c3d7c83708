/-
  The law DialectLossless: for every field, in every world in which the two tables hold the dialects' specs.
-/
import Derived.Test.YtbclaiaadeecfaaDoorDiaAwake
namespace Go.Proofs.YtbclaiaadeecfaaDoor
open Go.RowKit

/-- What the law asks of the two specs that are found, where the field is in Lossless. -/
theorem los_two {no : Int} (h : no ∈ losL) : ∃ n c f lo hi n' f' lo' hi', fndP no acqL = ((n, c, f, lo, hi), true) ∧ fndP no issL = ((n', c, f', lo', hi'), true) ∧ (no = 12 ∨ n' = n ∧ f' = f ∧ lo' = lo ∧ hi' = hi) := by
  obtain ⟨h1, h2, h3, h4⟩ := los_both no h
  rcases hA : fndP no acqL with ⟨⟨n, c, f, lo, hi⟩, b⟩
  rcases hB : fndP no issL with ⟨⟨n', c', f', lo', hi'⟩, b'⟩
  rw [hA] at h1 h3 h4
  rw [hB] at h2 h3 h4
  dsimp only at h1 h2 h3
  subst h1 h2 h3
  refine ⟨n, c, f, lo, hi, n', f', lo', hi', rfl, rfl, ?_⟩
  rcases h4 with h4 | h4
  · exact .inl h4
  · simp only [Prod.mk.injEq] at h4
    exact .inr ⟨h4.1.symm, h4.2.2.1.symm, h4.2.2.2.1.symm, h4.2.2.2.2.symm⟩

set_option maxRecDepth 100000 in
set_option maxHeartbeats 6400000 in
theorem dloss_no (no n c f lo hi n' c' f' lo' hi' : Int) (q q' : Bool) (w : World) (hT : Tabs w) (hr : decide (no ∈ losL) = false) (h1 : fndP no acqL = ((n, c, f, lo, hi), q)) (h2 : fndP no issL = ((n', c', f', lo', hi'), q')) :
    Calls Tryd.prog 6 #[.int .i64 no] w fun e w' => e = .returned (.bool true) ∧ Below w.heap.size w w' := by
  have HL := Lib.hid (fun W => los_any W)
  have HH := Lib.hid (fun W => has_any (ofH losL) (ofL losL) no W (of_lt _).1 (of_lt _).2)
  rw [los_has, hr] at HH
  have HI := Lib.hid (fun A W hI => refIn_any A 21 losL no W hI (by decide))
  rw [hr, show losL.length = 21 from rfl] at HI
  have HFA := Lib.hid (fun A W hI => sfind_any 1 0 A 28 acqL no W hI (by decide))
  have HFI := Lib.hid (fun A W hI => sfind_any 2 1 A 26 issL no W hI (by decide))
  rw [h1, show acqL.length = 28 from rfl] at HFA
  rw [h2, show issL.length = 26 from rfl] at HFI
  dsimp only [spV] at HFA HFI
  unfold setV at *
  generalize ofH losL = x at *
  generalize ofL losL = y at *
  have HT := Lib.hid hT
  clear hT h1 h2 hr
  go_enter Tryd.func6, Tryd.ntmps6
  go_wp2_with fail
  refine (HL.out _).mono ?_
  rintro e w1 ⟨rfl, hb1⟩
  have HB1 := Lib.hid hb1
  clear hb1
  go_wp2_with fail
  refine (HH.out _).mono ?_
  rintro e w2 ⟨rfl, hb2⟩
  have HB2 := Lib.hid (hbt HB1.out hb2)
  clear hb2
  go_wp2_with fail
  refine (dawake_any _ (HT.out.below HB2.out)).mono ?_
  rintro e w3 ⟨rfl, hb3⟩
  have HB3 := Lib.hid (hbt HB2.out hb3)
  clear hb3
  go_wp2_with fail
  refine (reflos_any _).mono ?_
  rintro e w4 ⟨g4, rfl, hi4, hb4⟩
  have HB4 := Lib.hid (hbt HB3.out hb4)
  have HI4 := Lib.hid hi4
  clear hb4 hi4
  go_wp2_with fail
  refine (HI.out _ _ HI4.out).mono ?_
  rintro e w5 ⟨rfl, rfl⟩
  go_wp2_with fail
  refine (acq_any _ (HT.out.below HB4.out)).mono ?_
  rintro e w6 ⟨g6, rfl, _, hg6, hb6⟩
  have HB6 := Lib.hid (hbt HB4.out hb6)
  have HS6 := Lib.hid (spl_row hg6 rfl)
  clear hg6 hb6
  go_wp2_with fail
  refine (HFA.out _ _ HS6.out).mono ?_
  rintro e w7 ⟨rfl, hb7⟩
  have HB7 := Lib.hid (hbt (hbt HB6.out hb7) (below_al w7 (.cells #[.int .i64 n, .int .i64 c, .int .i64 f, .int .i64 lo, .int .i64 hi] 28)))
  have HO7 := Lib.hid (heap_alloc_new w7 (.cells #[.int .i64 n, .int .i64 c, .int .i64 f, .int .i64 lo, .int .i64 hi] 28))
  clear hb7
  go_wp2_with fail
  refine (iss_any _ (HT.out.below HB7.out)).mono ?_
  rintro e w8 ⟨g8, rfl, _, hg8, hb8⟩
  have HB8 := Lib.hid (hbt HB7.out hb8)
  have HO8 := Lib.hid (obj_below HO7.out hb8)
  have HS8 := Lib.hid (spl_row hg8 rfl)
  clear hg8 hb8
  go_wp2_with fail
  refine (HFI.out _ _ HS8.out).mono ?_
  rintro e w9 ⟨rfl, hb9⟩
  have HB9 := Lib.hid (hbt (hbt HB8.out hb9) (below_al w9 (.cells #[.int .i64 n', .int .i64 c', .int .i64 f', .int .i64 lo', .int .i64 hi'] 28)))
  obtain ⟨c0, c1, c2, c3, c4⟩ := obj_cells5 (obj_below HO8.out hb9)
  have hz := obj_lt (obj_below HO8.out hb9)
  clear hb9
  go_wp2
  go_ret
  exact ⟨rfl, HB9.out⟩

set_option maxRecDepth 100000 in
set_option maxHeartbeats 6400000 in
theorem dloss_12 (n c f lo hi n' f' lo' hi' : Int) (w : World) (hT : Tabs w) (hr : decide (12 ∈ losL) = true) (h1 : fndP 12 acqL = ((n, c, f, lo, hi), true)) (h2 : fndP 12 issL = ((n', c, f', lo', hi'), true)) :
    Calls Tryd.prog 6 #[.int .i64 12] w fun e w' => e = .returned (.bool true) ∧ Below w.heap.size w w' := by
  have HL := Lib.hid (fun W => los_any W)
  have HH := Lib.hid (fun W => has_any (ofH losL) (ofL losL) 12 W (of_lt _).1 (of_lt _).2)
  rw [los_has, hr] at HH
  have HI := Lib.hid (fun A W hI => refIn_any A 21 losL 12 W hI (by decide))
  rw [hr, show losL.length = 21 from rfl] at HI
  have HFA := Lib.hid (fun A W hI => sfind_any 1 0 A 28 acqL 12 W hI (by decide))
  have HFI := Lib.hid (fun A W hI => sfind_any 2 1 A 26 issL 12 W hI (by decide))
  rw [h1, show acqL.length = 28 from rfl] at HFA
  rw [h2, show issL.length = 26 from rfl] at HFI
  dsimp only [spV] at HFA HFI
  unfold setV at *
  generalize ofH losL = x at *
  generalize ofL losL = y at *
  have HT := Lib.hid hT
  clear hT h1 h2 hr
  go_enter Tryd.func6, Tryd.ntmps6
  go_wp2_with fail
  refine (HL.out _).mono ?_
  rintro e w1 ⟨rfl, hb1⟩
  have HB1 := Lib.hid hb1
  clear hb1
  go_wp2_with fail
  refine (HH.out _).mono ?_
  rintro e w2 ⟨rfl, hb2⟩
  have HB2 := Lib.hid (hbt HB1.out hb2)
  clear hb2
  go_wp2_with fail
  refine (dawake_any _ (HT.out.below HB2.out)).mono ?_
  rintro e w3 ⟨rfl, hb3⟩
  have HB3 := Lib.hid (hbt HB2.out hb3)
  clear hb3
  go_wp2_with fail
  refine (reflos_any _).mono ?_
  rintro e w4 ⟨g4, rfl, hi4, hb4⟩
  have HB4 := Lib.hid (hbt HB3.out hb4)
  have HI4 := Lib.hid hi4
  clear hb4 hi4
  go_wp2_with fail
  refine (HI.out _ _ HI4.out).mono ?_
  rintro e w5 ⟨rfl, rfl⟩
  go_wp2_with fail
  refine (acq_any _ (HT.out.below HB4.out)).mono ?_
  rintro e w6 ⟨g6, rfl, _, hg6, hb6⟩
  have HB6 := Lib.hid (hbt HB4.out hb6)
  have HS6 := Lib.hid (spl_row hg6 rfl)
  clear hg6 hb6
  go_wp2_with fail
  refine (HFA.out _ _ HS6.out).mono ?_
  rintro e w7 ⟨rfl, hb7⟩
  have HB7 := Lib.hid (hbt (hbt HB6.out hb7) (below_al w7 (.cells #[.int .i64 n, .int .i64 c, .int .i64 f, .int .i64 lo, .int .i64 hi] 28)))
  have HO7 := Lib.hid (heap_alloc_new w7 (.cells #[.int .i64 n, .int .i64 c, .int .i64 f, .int .i64 lo, .int .i64 hi] 28))
  clear hb7
  go_wp2_with fail
  refine (iss_any _ (HT.out.below HB7.out)).mono ?_
  rintro e w8 ⟨g8, rfl, _, hg8, hb8⟩
  have HB8 := Lib.hid (hbt HB7.out hb8)
  have HO8 := Lib.hid (obj_below HO7.out hb8)
  have HS8 := Lib.hid (spl_row hg8 rfl)
  clear hg8 hb8
  go_wp2_with fail
  refine (HFI.out _ _ HS8.out).mono ?_
  rintro e w9 ⟨rfl, hb9⟩
  have HB9 := Lib.hid (hbt (hbt HB8.out hb9) (below_al w9 (.cells #[.int .i64 n', .int .i64 c, .int .i64 f', .int .i64 lo', .int .i64 hi'] 28)))
  obtain ⟨c0, c1, c2, c3, c4⟩ := obj_cells5 (obj_below HO8.out hb9)
  have hz := obj_lt (obj_below HO8.out hb9)
  clear hb9
  go_wp2
  go_ret
  exact ⟨rfl, HB9.out⟩

set_option maxRecDepth 100000 in
set_option maxHeartbeats 6400000 in
theorem dloss_yes (no n c f lo hi : Int) (hno : no ≠ 12) (w : World) (hT : Tabs w) (hr : decide (no ∈ losL) = true) (h1 : fndP no acqL = ((n, c, f, lo, hi), true)) (h2 : fndP no issL = ((n, c, f, lo, hi), true)) :
    Calls Tryd.prog 6 #[.int .i64 no] w fun e w' => e = .returned (.bool true) ∧ Below w.heap.size w w' := by
  have HL := Lib.hid (fun W => los_any W)
  have HH := Lib.hid (fun W => has_any (ofH losL) (ofL losL) no W (of_lt _).1 (of_lt _).2)
  rw [los_has, hr] at HH
  have HI := Lib.hid (fun A W hI => refIn_any A 21 losL no W hI (by decide))
  rw [hr, show losL.length = 21 from rfl] at HI
  have HFA := Lib.hid (fun A W hI => sfind_any 1 0 A 28 acqL no W hI (by decide))
  have HFI := Lib.hid (fun A W hI => sfind_any 2 1 A 26 issL no W hI (by decide))
  rw [h1, show acqL.length = 28 from rfl] at HFA
  rw [h2, show issL.length = 26 from rfl] at HFI
  dsimp only [spV] at HFA HFI
  unfold setV at *
  generalize ofH losL = x at *
  generalize ofL losL = y at *
  have HT := Lib.hid hT
  clear hT h1 h2 hr
  have t1 : (no == 12) = false := by simpa using hno
  clear hno
  go_enter Tryd.func6, Tryd.ntmps6
  go_wp2_with fail
  refine (HL.out _).mono ?_
  rintro e w1 ⟨rfl, hb1⟩
  have HB1 := Lib.hid hb1
  clear hb1
  go_wp2_with fail
  refine (HH.out _).mono ?_
  rintro e w2 ⟨rfl, hb2⟩
  have HB2 := Lib.hid (hbt HB1.out hb2)
  clear hb2
  go_wp2_with fail
  refine (dawake_any _ (HT.out.below HB2.out)).mono ?_
  rintro e w3 ⟨rfl, hb3⟩
  have HB3 := Lib.hid (hbt HB2.out hb3)
  clear hb3
  go_wp2_with fail
  refine (reflos_any _).mono ?_
  rintro e w4 ⟨g4, rfl, hi4, hb4⟩
  have HB4 := Lib.hid (hbt HB3.out hb4)
  have HI4 := Lib.hid hi4
  clear hb4 hi4
  go_wp2_with fail
  refine (HI.out _ _ HI4.out).mono ?_
  rintro e w5 ⟨rfl, rfl⟩
  go_wp2_with fail
  refine (acq_any _ (HT.out.below HB4.out)).mono ?_
  rintro e w6 ⟨g6, rfl, _, hg6, hb6⟩
  have HB6 := Lib.hid (hbt HB4.out hb6)
  have HS6 := Lib.hid (spl_row hg6 rfl)
  clear hg6 hb6
  go_wp2_with fail
  refine (HFA.out _ _ HS6.out).mono ?_
  rintro e w7 ⟨rfl, hb7⟩
  have HB7 := Lib.hid (hbt (hbt HB6.out hb7) (below_al w7 (.cells #[.int .i64 n, .int .i64 c, .int .i64 f, .int .i64 lo, .int .i64 hi] 28)))
  have HO7 := Lib.hid (heap_alloc_new w7 (.cells #[.int .i64 n, .int .i64 c, .int .i64 f, .int .i64 lo, .int .i64 hi] 28))
  clear hb7
  go_wp2_with fail
  refine (iss_any _ (HT.out.below HB7.out)).mono ?_
  rintro e w8 ⟨g8, rfl, _, hg8, hb8⟩
  have HB8 := Lib.hid (hbt HB7.out hb8)
  have HO8 := Lib.hid (obj_below HO7.out hb8)
  have HS8 := Lib.hid (spl_row hg8 rfl)
  clear hg8 hb8
  go_wp2_with fail
  refine (HFI.out _ _ HS8.out).mono ?_
  rintro e w9 ⟨rfl, hb9⟩
  have HB9 := Lib.hid (hbt (hbt HB8.out hb9) (below_al w9 (.cells #[.int .i64 n, .int .i64 c, .int .i64 f, .int .i64 lo, .int .i64 hi] 28)))
  obtain ⟨c0, c1, c2, c3, c4⟩ := obj_cells5 (obj_below HO8.out hb9)
  have hz := obj_lt (obj_below HO8.out hb9)
  clear hb9
  go_wp2
  go_ret
  exact ⟨rfl, HB9.out⟩

theorem dloss_walk (no : Int) (w : World) (hT : Tabs w) (_h1 : -9223372036854775808 ≤ no) (_h2 : no ≤ 9223372036854775807) :
    Calls Tryd.prog 6 #[.int .i64 no] w fun e w' => e = .returned (.bool true) ∧ Below w.heap.size w w' := by
  by_cases h : no ∈ losL
  · obtain ⟨n, c, f, lo, hi, n', f', lo', hi', h1, h2, h3⟩ := los_two h
    by_cases hno : no = 12
    · subst hno
      exact dloss_12 n c f lo hi n' f' lo' hi' w hT (decide_eq_true h) h1 h2
    · rcases h3 with h3 | ⟨rfl, rfl, rfl, rfl⟩
      · exact absurd h3 hno
      · exact dloss_yes no _ c _ _ _ hno w hT (decide_eq_true h) h1 h2
  · exact dloss_no no _ _ _ _ _ _ _ _ _ _ _ _ w hT (decide_eq_false h) rfl rfl

end Go.Proofs.YtbclaiaadeecfaaDoor
