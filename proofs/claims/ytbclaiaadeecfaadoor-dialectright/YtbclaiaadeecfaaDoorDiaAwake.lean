/-
  The answers that the document fixes: in every world in which the two tables hold the dialects' specs.
-/
import Derived.Test.YtbclaiaadeecfaaDoorDiaOf
import Derived.Test.YtbclaiaadeecfaaDoorSchFind
namespace Go.Proofs.YtbclaiaadeecfaaDoor
open Go.RowKit

theorem iss_22 : fndP 22 issL = ((22, 3, 1, 12, 12), true) := by decide
theorem los_55 : hasN (ofH losL) (ofL losL) 55 = true := by rw [los_has]; decide
theorem los_39 : hasN (ofH losL) (ofL losL) 39 = false := by rw [los_has]; decide

set_option maxRecDepth 100000 in
set_option maxHeartbeats 3200000 in
theorem dawake_any (w : World) (hT : Tabs w) : Calls Tryd.prog 10 #[] w fun e w' => e = .returned (.bool true) ∧ Below w.heap.size w w' := by
  have HF := Lib.hid (fun g W hI => sfind_any 2 1 (some ⟨g, 0, none⟩) 26 issL 22 W hI (by decide))
  rw [iss_22, show issL.length = 26 from rfl] at HF
  have HL := Lib.hid (fun W => los_any W)
  have H5 := Lib.hid (fun W => has_any (ofH losL) (ofL losL) 55 W (of_lt _).1 (of_lt _).2)
  have H3 := Lib.hid (fun W => has_any (ofH losL) (ofL losL) 39 W (of_lt _).1 (of_lt _).2)
  rw [los_55] at H5
  rw [los_39] at H3
  dsimp only [spV] at HF
  unfold setV at *
  generalize ofH losL = x at *
  generalize ofL losL = y at *
  have hfd : ∀ (g' : Nat) (u : World), (Instr.field 24 (.agg #[.int .i64 1, .int .i64 0, .slice (some ⟨g', 0, none⟩) 28 28]) 0).run Tryd.prog u = .ok (.int .i64 1) u := fun _ _ => by kernel_rfl
  have HT := Lib.hid hT
  clear hT
  go_enter Tryd.func10, Tryd.ntmps10
  go_wp2_with fail
  refine (iss_any _ HT.out).mono ?_
  rintro e w1 ⟨g, rfl, _, hg, hb1⟩
  have HB1 := Lib.hid hb1
  have HS1 := Lib.hid (spl_row hg rfl)
  clear hg hb1
  go_wp2_with fail
  refine (HF.out _ _ HS1.out).mono ?_
  rintro e w2 ⟨rfl, hb2⟩
  have HB2 := Lib.hid (hbt (hbt HB1.out hb2) (below_al w2 (.cells #[.int .i64 22, .int .i64 3, .int .i64 1, .int .i64 12, .int .i64 12] 28)))
  clear hb2
  go_wp2_with fail
  refine (acq_any _ (HT.out.below HB2.out)).mono ?_
  rintro e w3 ⟨g', rfl, _, _, hb3⟩
  have HB3 := Lib.hid (hbt HB2.out hb3)
  clear hb3
  go_wp2_with fail
  refine (HL.out _).mono ?_
  rintro e w4 ⟨rfl, hb4⟩
  have HB4 := Lib.hid (hbt HB3.out hb4)
  clear hb4
  go_wp2_with fail
  refine (H5.out _).mono ?_
  rintro e w5 ⟨rfl, hb5⟩
  have HB5 := Lib.hid (hbt HB4.out hb5)
  clear hb5
  go_wp2_with fail
  refine (HL.out _).mono ?_
  rintro e w6 ⟨rfl, hb6⟩
  have HB6 := Lib.hid (hbt HB5.out hb6)
  clear hb6
  go_wp2_with fail
  refine (H3.out _).mono ?_
  rintro e w7 ⟨rfl, hb7⟩
  have HB7 := Lib.hid (hbt HB6.out hb7)
  clear hb7
  go_wp2
  go_ret
  exact ⟨rfl, HB7.out⟩

end Go.Proofs.YtbclaiaadeecfaaDoor
