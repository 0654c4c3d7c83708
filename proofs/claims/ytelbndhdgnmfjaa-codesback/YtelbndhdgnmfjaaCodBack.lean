/-
  CodesBack: for every input, in every world.
-/
import Derived.Test.YtelbndhdgnmfjaaCodAwake
namespace Go.Proofs.Ytelbndhdgnmfjaa
open Go.RowKit

set_option maxRecDepth 100000 in
set_option maxHeartbeats 1600000 in
theorem cback_great (A : Option Addr) (cap : Nat) (l : List Duo) (t : ByteArray) (w : World) (hI : Prs w A l) (hm : l.length ≤ maxLen) (hf : Fit2 l) (hg : cgreatB l = true) : Calls Try.prog 6 #[.slice A l.length cap, .string t] w fun e w' => e = .returned (.bool true) ∧ Below w.heap.size w w' := by
  have HI := Lib.hid hI
  have HG := Lib.hid (fun W h => cgreat_any A cap l W h hm hf)
  rw [hg] at HG
  clear hI hg hm hf
  generalize l.length = len at *
  go_enter Try.func6, Try.ntmps6
  go_wp2_with fail
  refine (cawake_any _).mono ?_
  rintro e w1 ⟨rfl, hb1⟩
  have HB1 := Lib.hid hb1
  clear hb1
  go_wp2_with fail
  refine (HG.out _ (HI.out.below HB1.out)).mono ?_
  rintro e w2 ⟨rfl, hb2⟩
  have HB2 := Lib.hid (hbt HB1.out hb2)
  clear hb2
  go_wp2_with fail
  refine (cawake_any _).mono ?_
  rintro e w4 ⟨rfl, hb4⟩
  have HB4 := Lib.hid (hbt HB2.out hb4)
  clear hb4
  go_wp2
  go_ret
  exact ⟨rfl, HB4.out⟩
set_option maxRecDepth 100000 in
set_option maxHeartbeats 1600000 in
theorem cback_long (A : Option Addr) (cap : Nat) (l : List Duo) (t : ByteArray) (w : World) (hI : Prs w A l) (hm : l.length ≤ maxLen) (hf : Fit2 l) (hg : cgreatB l = false) (ht : t.size ≤ maxLen) (hlt : 1000 < t.size) : Calls Try.prog 6 #[.slice A l.length cap, .string t] w fun e w' => e = .returned (.bool true) ∧ Below w.heap.size w w' := by
  have HI := Lib.hid hI
  have HG := Lib.hid (fun W h => cgreat_any A cap l W h hm hf)
  rw [hg] at HG
  unfold maxLen at ht
  clear hI hg hm hf
  generalize l.length = len at *
  go_enter Try.func6, Try.ntmps6
  go_wp2_with fail
  refine (cawake_any _).mono ?_
  rintro e w1 ⟨rfl, hb1⟩
  have HB1 := Lib.hid hb1
  clear hb1
  go_wp2_with fail
  refine (HG.out _ (HI.out.below HB1.out)).mono ?_
  rintro e w2 ⟨rfl, hb2⟩
  have HB2 := Lib.hid (hbt HB1.out hb2)
  clear hb2
  go_wp2_with fail
  refine (cawake_any _).mono ?_
  rintro e w4 ⟨rfl, hb4⟩
  have HB4 := Lib.hid (hbt HB2.out hb4)
  clear hb4
  go_wp2
  go_ret
  exact ⟨rfl, HB4.out⟩
set_option maxRecDepth 100000 in
set_option maxHeartbeats 1600000 in
theorem cback_not (A : Option Addr) (cap : Nat) (l : List Duo) (t : ByteArray) (w : World) (hI : Prs w A l) (hm : l.length ≤ maxLen) (hf : Fit2 l) (hg : cgreatB l = false) (ht : t.size ≤ 1000) (hj : bijB l = false) : Calls Try.prog 6 #[.slice A l.length cap, .string t] w fun e w' => e = .returned (.bool true) ∧ Below w.heap.size w w' := by
  have HI := Lib.hid hI
  have HG := Lib.hid (fun W h => cgreat_any A cap l W h hm hf)
  rw [hg] at HG
  have HJ := Lib.hid (fun W h => cbij_any A cap l W h hm hf)
  rw [hj] at HJ
  clear hI hg hm hf hj
  generalize l.length = len at *
  go_enter Try.func6, Try.ntmps6
  go_wp2_with fail
  refine (cawake_any _).mono ?_
  rintro e w1 ⟨rfl, hb1⟩
  have HB1 := Lib.hid hb1
  clear hb1
  go_wp2_with fail
  refine (HG.out _ (HI.out.below HB1.out)).mono ?_
  rintro e w2 ⟨rfl, hb2⟩
  have HB2 := Lib.hid (hbt HB1.out hb2)
  clear hb2
  go_wp2_with fail
  refine (HJ.out _ (HI.out.below HB2.out)).mono ?_
  rintro e w3 ⟨rfl, hb3⟩
  have HB3 := Lib.hid (hbt HB2.out hb3)
  clear hb3
  go_wp2_with fail
  refine (cawake_any _).mono ?_
  rintro e w4 ⟨rfl, hb4⟩
  have HB4 := Lib.hid (hbt HB3.out hb4)
  clear hb4
  go_wp2
  go_ret
  exact ⟨rfl, HB4.out⟩
set_option maxRecDepth 100000 in
set_option maxHeartbeats 3200000 in
theorem cback_yy (A : Option Addr) (cap : Nat) (l : List Duo) (t : ByteArray) (w : World) (hI : Prs w A l) (hm : l.length ≤ maxLen) (hf : Fit2 l) (hg : cgreatB l = false) (ht : t.size ≤ 1000) (hj : bijB l = true) (hp : appB l t = true) (hq : appB (turnL l) t = true) : Calls Try.prog 6 #[.slice A l.length cap, .string t] w fun e w' => e = .returned (.bool true) ∧ Below w.heap.size w w' := by
  have HI := Lib.hid hI
  have HG := Lib.hid (fun W h => cgreat_any A cap l W h hm hf)
  rw [hg] at HG
  have hl := bij_len hj
  have HJ := Lib.hid (fun W h => cbij_any A cap l W h hm hf)
  have HT := Lib.hid (fun W h => cturn_any A cap l W h (by omega))
  have HA := Lib.hid (fun W h => capply_any A cap l t W h (by omega))
  have HA2 := Lib.hid (fun W B c h => capply_any B c (turnL l) t W h (by rw [turn_len]; omega))
  rw [turn_len] at HA2
  rw [hj] at HJ
  rw [hp] at HA
  rw [hq] at HA2
  have HX := Lib.hid (fun W B c h => capply_any B c (turnL l) (appS l t) W h (by rw [turn_len]; omega))
  rw [turn_len, (bij_back hj hp).1, (bij_back hj hp).2] at HX
  have HY := Lib.hid (fun W h => capply_any A cap l (appS (turnL l) t) W h (by omega))
  have hbk := bij_back (bij_turn hj) hq
  rw [turn_turn] at hbk
  rw [hbk.1, hbk.2] at HY
  clear hI hg hm hf hj hl hp hq hbk
  generalize appS l t = s at *
  generalize appS (turnL l) t = v at *
  generalize turnL l = m at *
  generalize l.length = len at *
  go_enter Try.func6, Try.ntmps6
  go_wp2_with fail
  refine (cawake_any _).mono ?_
  rintro e w1 ⟨rfl, hb1⟩
  have HB1 := Lib.hid hb1
  clear hb1
  go_wp2_with fail
  refine (HG.out _ (HI.out.below HB1.out)).mono ?_
  rintro e w2 ⟨rfl, hb2⟩
  have HB2 := Lib.hid (hbt HB1.out hb2)
  clear hb2
  go_wp2_with fail
  refine (HJ.out _ (HI.out.below HB2.out)).mono ?_
  rintro e w3 ⟨rfl, hb3⟩
  have HB3 := Lib.hid (hbt HB2.out hb3)
  clear hb3
  go_wp2_with fail
  refine (HT.out _ (HI.out.below HB3.out)).mono ?_
  rintro e w4 ⟨B, c, rfl, hT, hb4⟩
  have HT4 := Lib.hid hT
  have HB4 := Lib.hid (hbt HB3.out hb4)
  clear hb4 hT
  go_wp2_with fail
  refine (HA.out _ (HI.out.below HB4.out)).mono ?_
  rintro e w5 ⟨rfl, hb5⟩
  have HB5 := Lib.hid (hbt HB4.out hb5)
  have HT5 := Lib.hid (HT4.out.below hb5)
  clear hb5
  go_wp2_with fail
  refine (HX.out _ _ _ HT5.out).mono ?_
  rintro e w6 ⟨rfl, hb6⟩
  have HB6 := Lib.hid (hbt HB5.out hb6)
  have HT6 := Lib.hid (HT5.out.below hb6)
  clear hb6
  go_wp2_with fail
  refine (HA2.out _ _ _ HT6.out).mono ?_
  rintro e w7 ⟨rfl, hb7⟩
  have HB7 := Lib.hid (hbt HB6.out hb7)
  clear hb7
  go_wp2_with fail
  refine (HY.out _ (HI.out.below HB7.out)).mono ?_
  rintro e w8 ⟨rfl, hb8⟩
  have HB8 := Lib.hid (hbt HB7.out hb8)
  clear hb8
  go_wp2
  go_ret
  exact ⟨rfl, HB8.out⟩
set_option maxRecDepth 100000 in
set_option maxHeartbeats 3200000 in
theorem cback_yn (A : Option Addr) (cap : Nat) (l : List Duo) (t : ByteArray) (w : World) (hI : Prs w A l) (hm : l.length ≤ maxLen) (hf : Fit2 l) (hg : cgreatB l = false) (ht : t.size ≤ 1000) (hj : bijB l = true) (hp : appB l t = true) (hq : appB (turnL l) t = false) : Calls Try.prog 6 #[.slice A l.length cap, .string t] w fun e w' => e = .returned (.bool true) ∧ Below w.heap.size w w' := by
  have HI := Lib.hid hI
  have HG := Lib.hid (fun W h => cgreat_any A cap l W h hm hf)
  rw [hg] at HG
  have hl := bij_len hj
  have HJ := Lib.hid (fun W h => cbij_any A cap l W h hm hf)
  have HT := Lib.hid (fun W h => cturn_any A cap l W h (by omega))
  have HA := Lib.hid (fun W h => capply_any A cap l t W h (by omega))
  have HA2 := Lib.hid (fun W B c h => capply_any B c (turnL l) t W h (by rw [turn_len]; omega))
  rw [turn_len] at HA2
  rw [hj] at HJ
  rw [hp] at HA
  rw [hq] at HA2
  have HX := Lib.hid (fun W B c h => capply_any B c (turnL l) (appS l t) W h (by rw [turn_len]; omega))
  rw [turn_len, (bij_back hj hp).1, (bij_back hj hp).2] at HX
  rw [app_none hq] at HA2
  clear hI hg hm hf hj hl hp hq
  generalize appS l t = s at *
  generalize turnL l = m at *
  generalize l.length = len at *
  go_enter Try.func6, Try.ntmps6
  go_wp2_with fail
  refine (cawake_any _).mono ?_
  rintro e w1 ⟨rfl, hb1⟩
  have HB1 := Lib.hid hb1
  clear hb1
  go_wp2_with fail
  refine (HG.out _ (HI.out.below HB1.out)).mono ?_
  rintro e w2 ⟨rfl, hb2⟩
  have HB2 := Lib.hid (hbt HB1.out hb2)
  clear hb2
  go_wp2_with fail
  refine (HJ.out _ (HI.out.below HB2.out)).mono ?_
  rintro e w3 ⟨rfl, hb3⟩
  have HB3 := Lib.hid (hbt HB2.out hb3)
  clear hb3
  go_wp2_with fail
  refine (HT.out _ (HI.out.below HB3.out)).mono ?_
  rintro e w4 ⟨B, c, rfl, hT, hb4⟩
  have HT4 := Lib.hid hT
  have HB4 := Lib.hid (hbt HB3.out hb4)
  clear hb4 hT
  go_wp2_with fail
  refine (HA.out _ (HI.out.below HB4.out)).mono ?_
  rintro e w5 ⟨rfl, hb5⟩
  have HB5 := Lib.hid (hbt HB4.out hb5)
  have HT5 := Lib.hid (HT4.out.below hb5)
  clear hb5
  go_wp2_with fail
  refine (HX.out _ _ _ HT5.out).mono ?_
  rintro e w6 ⟨rfl, hb6⟩
  have HB6 := Lib.hid (hbt HB5.out hb6)
  have HT6 := Lib.hid (HT5.out.below hb6)
  clear hb6
  go_wp2_with fail
  refine (HA2.out _ _ _ HT6.out).mono ?_
  rintro e w7 ⟨rfl, hb7⟩
  have HB7 := Lib.hid (hbt HB6.out hb7)
  clear hb7
  go_wp2
  go_ret
  exact ⟨rfl, HB7.out⟩
set_option maxRecDepth 100000 in
set_option maxHeartbeats 3200000 in
theorem cback_ny (A : Option Addr) (cap : Nat) (l : List Duo) (t : ByteArray) (w : World) (hI : Prs w A l) (hm : l.length ≤ maxLen) (hf : Fit2 l) (hg : cgreatB l = false) (ht : t.size ≤ 1000) (hj : bijB l = true) (hp : appB l t = false) (hq : appB (turnL l) t = true) : Calls Try.prog 6 #[.slice A l.length cap, .string t] w fun e w' => e = .returned (.bool true) ∧ Below w.heap.size w w' := by
  have HI := Lib.hid hI
  have HG := Lib.hid (fun W h => cgreat_any A cap l W h hm hf)
  rw [hg] at HG
  have hl := bij_len hj
  have HJ := Lib.hid (fun W h => cbij_any A cap l W h hm hf)
  have HT := Lib.hid (fun W h => cturn_any A cap l W h (by omega))
  have HA := Lib.hid (fun W h => capply_any A cap l t W h (by omega))
  have HA2 := Lib.hid (fun W B c h => capply_any B c (turnL l) t W h (by rw [turn_len]; omega))
  rw [turn_len] at HA2
  rw [hj] at HJ
  rw [hp] at HA
  rw [hq] at HA2
  rw [app_none hp] at HA
  have HY := Lib.hid (fun W h => capply_any A cap l (appS (turnL l) t) W h (by omega))
  have hbk := bij_back (bij_turn hj) hq
  rw [turn_turn] at hbk
  rw [hbk.1, hbk.2] at HY
  clear hI hg hm hf hj hl hp hq hbk
  generalize appS (turnL l) t = v at *
  generalize turnL l = m at *
  generalize l.length = len at *
  go_enter Try.func6, Try.ntmps6
  go_wp2_with fail
  refine (cawake_any _).mono ?_
  rintro e w1 ⟨rfl, hb1⟩
  have HB1 := Lib.hid hb1
  clear hb1
  go_wp2_with fail
  refine (HG.out _ (HI.out.below HB1.out)).mono ?_
  rintro e w2 ⟨rfl, hb2⟩
  have HB2 := Lib.hid (hbt HB1.out hb2)
  clear hb2
  go_wp2_with fail
  refine (HJ.out _ (HI.out.below HB2.out)).mono ?_
  rintro e w3 ⟨rfl, hb3⟩
  have HB3 := Lib.hid (hbt HB2.out hb3)
  clear hb3
  go_wp2_with fail
  refine (HT.out _ (HI.out.below HB3.out)).mono ?_
  rintro e w4 ⟨B, c, rfl, hT, hb4⟩
  have HT4 := Lib.hid hT
  have HB4 := Lib.hid (hbt HB3.out hb4)
  clear hb4 hT
  go_wp2_with fail
  refine (HA.out _ (HI.out.below HB4.out)).mono ?_
  rintro e w5 ⟨rfl, hb5⟩
  have HB5 := Lib.hid (hbt HB4.out hb5)
  have HT5 := Lib.hid (HT4.out.below hb5)
  clear hb5
  go_wp2_with fail
  refine (HA2.out _ _ _ HT5.out).mono ?_
  rintro e w6 ⟨rfl, hb6⟩
  have HB6 := Lib.hid (hbt HB5.out hb6)
  clear hb6
  go_wp2_with fail
  refine (HY.out _ (HI.out.below HB6.out)).mono ?_
  rintro e w7 ⟨rfl, hb7⟩
  have HB7 := Lib.hid (hbt HB6.out hb7)
  clear hb7
  go_wp2
  go_ret
  exact ⟨rfl, HB7.out⟩
set_option maxRecDepth 100000 in
set_option maxHeartbeats 3200000 in
theorem cback_nn (A : Option Addr) (cap : Nat) (l : List Duo) (t : ByteArray) (w : World) (hI : Prs w A l) (hm : l.length ≤ maxLen) (hf : Fit2 l) (hg : cgreatB l = false) (ht : t.size ≤ 1000) (hj : bijB l = true) (hp : appB l t = false) (hq : appB (turnL l) t = false) : Calls Try.prog 6 #[.slice A l.length cap, .string t] w fun e w' => e = .returned (.bool true) ∧ Below w.heap.size w w' := by
  have HI := Lib.hid hI
  have HG := Lib.hid (fun W h => cgreat_any A cap l W h hm hf)
  rw [hg] at HG
  have hl := bij_len hj
  have HJ := Lib.hid (fun W h => cbij_any A cap l W h hm hf)
  have HT := Lib.hid (fun W h => cturn_any A cap l W h (by omega))
  have HA := Lib.hid (fun W h => capply_any A cap l t W h (by omega))
  have HA2 := Lib.hid (fun W B c h => capply_any B c (turnL l) t W h (by rw [turn_len]; omega))
  rw [turn_len] at HA2
  rw [hj] at HJ
  rw [hp] at HA
  rw [hq] at HA2
  rw [app_none hp] at HA
  rw [app_none hq] at HA2
  clear hI hg hm hf hj hl hp hq
  generalize turnL l = m at *
  generalize l.length = len at *
  go_enter Try.func6, Try.ntmps6
  go_wp2_with fail
  refine (cawake_any _).mono ?_
  rintro e w1 ⟨rfl, hb1⟩
  have HB1 := Lib.hid hb1
  clear hb1
  go_wp2_with fail
  refine (HG.out _ (HI.out.below HB1.out)).mono ?_
  rintro e w2 ⟨rfl, hb2⟩
  have HB2 := Lib.hid (hbt HB1.out hb2)
  clear hb2
  go_wp2_with fail
  refine (HJ.out _ (HI.out.below HB2.out)).mono ?_
  rintro e w3 ⟨rfl, hb3⟩
  have HB3 := Lib.hid (hbt HB2.out hb3)
  clear hb3
  go_wp2_with fail
  refine (HT.out _ (HI.out.below HB3.out)).mono ?_
  rintro e w4 ⟨B, c, rfl, hT, hb4⟩
  have HT4 := Lib.hid hT
  have HB4 := Lib.hid (hbt HB3.out hb4)
  clear hb4 hT
  go_wp2_with fail
  refine (HA.out _ (HI.out.below HB4.out)).mono ?_
  rintro e w5 ⟨rfl, hb5⟩
  have HB5 := Lib.hid (hbt HB4.out hb5)
  have HT5 := Lib.hid (HT4.out.below hb5)
  clear hb5
  go_wp2_with fail
  refine (HA2.out _ _ _ HT5.out).mono ?_
  rintro e w6 ⟨rfl, hb6⟩
  have HB6 := Lib.hid (hbt HB5.out hb6)
  clear hb6
  go_wp2
  go_ret
  exact ⟨rfl, HB6.out⟩
theorem codesBack_walk (A : Option Addr) (cap : Nat) (l : List Duo) (t : ByteArray) (w : World) (hI : Prs w A l) (hm : l.length ≤ maxLen) (hf : Fit2 l) (ht : t.size ≤ maxLen) : Calls Try.prog 6 #[.slice A l.length cap, .string t] w fun e w' => e = .returned (.bool true) ∧ Below w.heap.size w w' := by
  cases hg : cgreatB l
  · by_cases hlt : 1000 < t.size
    · exact cback_long A cap l t w hI hm hf hg ht hlt
    · have ht' : t.size ≤ 1000 := by omega
      cases hj : bijB l
      · exact cback_not A cap l t w hI hm hf hg ht' hj
      · cases hp : appB l t
        · cases hq : appB (turnL l) t
          · exact cback_nn A cap l t w hI hm hf hg ht' hj hp hq
          · exact cback_ny A cap l t w hI hm hf hg ht' hj hp hq
        · cases hq : appB (turnL l) t
          · exact cback_yn A cap l t w hI hm hf hg ht' hj hp hq
          · exact cback_yy A cap l t w hI hm hf hg ht' hj hp hq
  · exact cback_great A cap l t w hI hm hf hg

end Go.Proofs.Ytelbndhdgnmfjaa
