/-
  CodesChecks, CodesApply and CodesTurns: for every input, in every world.
-/
import Derived.Test.YtelbndhdgnmfjaaCodAwake
namespace Go.Proofs.Ytelbndhdgnmfjaa
open Go.RowKit

set_option maxRecDepth 100000 in
set_option maxHeartbeats 1600000 in
theorem cchecks_great (A : Option Addr) (cap : Nat) (l : List Duo) (w : World) (hI : Prs w A l) (hm : l.length ≤ maxLen) (hf : Fit2 l) (hg : cgreatB l = true) : Calls Try.prog 3 #[.slice A l.length cap] w fun e w' => e = .returned (.bool true) ∧ Below w.heap.size w w' := by
  have HI := Lib.hid hI
  have HG := Lib.hid (fun W h => cgreat_any A cap l W h hm hf)
  rw [hg] at HG
  clear hI hg hm hf
  generalize l.length = len at *
  go_enter Try.func3, Try.ntmps3
  go_wp2_with fail
  refine (cawake_any _).mono ?_
  rintro e w1 ⟨rfl, hb1⟩
  have HB1 := Lib.hid hb1
  clear hb1
  go_wp2_with fail
  refine (HG.out _ (HI.out.below HB1.out)).mono ?_
  rintro e w2 ⟨rfl, hb2⟩
  have HB2 := Lib.hid (hbt HB1.out hb2)
  clear hb2
  go_wp2_with fail
  refine (cawake_any _).mono ?_
  rintro e w3 ⟨rfl, hb3⟩
  have HB3 := Lib.hid (hbt HB2.out hb3)
  clear hb3
  go_wp2
  go_ret
  exact ⟨rfl, HB3.out⟩
set_option maxRecDepth 100000 in
set_option maxHeartbeats 3200000 in
theorem cchecks_small (A : Option Addr) (cap : Nat) (l : List Duo) (w : World) (hI : Prs w A l) (hf : Fit2 l) (hg : cgreatB l = false) : Calls Try.prog 3 #[.slice A l.length cap] w fun e w' => e = .returned (.bool true) ∧ Below w.heap.size w w' := by
  have hl := cgreat_len hg
  have hm : l.length ≤ maxLen := by unfold maxLen; omega
  have HI := Lib.hid hI
  have HG := Lib.hid (fun W h => cgreat_any A cap l W h hm hf)
  have HC := Lib.hid (fun W h => ccopy_any A cap l W h (by omega))
  have HK := Lib.hid (fun W B c h => ccheck_any B c l W h hm hf)
  have HR := Lib.hid (fun W h => crcheck_any A cap l W h hm)
  have HJ := Lib.hid (fun W B c h => cbij_any B c l W h hm hf)
  have HQ := Lib.hid (fun W h => crbij_any A cap l W h hl)
  have HP : Hid (∀ (W : World) (base : Nat) (B : Option Addr) (c : Nat), W.ownsRow base _ 2 (.slice B l.length c) l.length (duosC l) → Prs W B l) := fun W base B c h => prs_row h rfl
  rw [hg] at HG
  clear hI hg hm hf hl
  generalize (tabN l).1 = x at *
  generalize (tabN l).2 = y at *
  generalize bijB l = b at *
  generalize l.length = len at *
  go_enter Try.func3, Try.ntmps3
  go_wp2_with fail
  refine (cawake_any _).mono ?_
  rintro e w1 ⟨rfl, hb1⟩
  have HB1 := Lib.hid hb1
  clear hb1
  go_wp2_with fail
  refine (HG.out _ (HI.out.below HB1.out)).mono ?_
  rintro e w2 ⟨rfl, hb2⟩
  have HB2 := Lib.hid (hbt HB1.out hb2)
  clear hb2 HB1
  go_wp2_with fail
  refine (HC.out _ (HI.out.below HB2.out)).mono ?_
  rintro e w3 ⟨B, c, rfl, hT, hb3⟩
  have HT3 := Lib.hid (HP.out _ _ _ _ hT)
  have HB3 := Lib.hid (hbt HB2.out hb3)
  clear hb3 hT HB2
  go_wp2_with fail
  refine (HK.out _ _ _ HT3.out).mono ?_
  rintro e w4 ⟨rfl, hb4⟩
  have HB4 := Lib.hid (hbt HB3.out hb4)
  clear hb4 HB3
  go_wp2_with fail
  refine (HR.out _ (HI.out.below HB4.out)).mono ?_
  rintro e w5 ⟨rfl, rfl⟩
  go_wp2_with fail
  refine (HC.out _ (HI.out.below HB4.out)).mono ?_
  rintro e w6 ⟨B6, c6, rfl, hT, hb6⟩
  have HT6 := Lib.hid (HP.out _ _ _ _ hT)
  have HB6 := Lib.hid (hbt HB4.out hb6)
  clear hb6 hT HB4
  go_wp2_with fail
  refine (HJ.out _ _ _ HT6.out).mono ?_
  rintro e w7 ⟨rfl, hb7⟩
  have HB7 := Lib.hid (hbt HB6.out hb7)
  clear hb7 HB6
  go_wp2_with fail
  refine (HQ.out _ (HI.out.below HB7.out)).mono ?_
  rintro e w8 ⟨rfl, hb8⟩
  have HB8 := Lib.hid (hbt HB7.out hb8)
  clear hb8 HB7
  go_wp2
  go_ret
  exact ⟨by simp, HB8.out⟩
theorem codesChecks_walk (A : Option Addr) (cap : Nat) (l : List Duo) (w : World) (hI : Prs w A l) (hm : l.length ≤ maxLen) (hf : Fit2 l) : Calls Try.prog 3 #[.slice A l.length cap] w fun e w' => e = .returned (.bool true) ∧ Below w.heap.size w w' := by
  cases hg : cgreatB l
  · exact cchecks_small A cap l w hI hf hg
  · exact cchecks_great A cap l w hI hm hf hg

set_option maxRecDepth 100000 in
set_option maxHeartbeats 1600000 in
theorem capplys_great (A : Option Addr) (cap : Nat) (l : List Duo) (t : ByteArray) (w : World) (hI : Prs w A l) (hm : l.length ≤ maxLen) (hf : Fit2 l) (hg : cgreatB l = true) : Calls Try.prog 4 #[.slice A l.length cap, .string t] w fun e w' => e = .returned (.bool true) ∧ Below w.heap.size w w' := by
  have HI := Lib.hid hI
  have HG := Lib.hid (fun W h => cgreat_any A cap l W h hm hf)
  rw [hg] at HG
  clear hI hg hm hf
  generalize l.length = len at *
  go_enter Try.func4, Try.ntmps4
  go_wp2_with fail
  refine (cawake_any _).mono ?_
  rintro e w1 ⟨rfl, hb1⟩
  have HB1 := Lib.hid hb1
  clear hb1
  go_wp2_with fail
  refine (HG.out _ (HI.out.below HB1.out)).mono ?_
  rintro e w2 ⟨rfl, hb2⟩
  have HB2 := Lib.hid (hbt HB1.out hb2)
  clear hb2
  go_wp2_with fail
  refine (cawake_any _).mono ?_
  rintro e w3 ⟨rfl, hb3⟩
  have HB3 := Lib.hid (hbt HB2.out hb3)
  clear hb3
  go_wp2
  go_ret
  exact ⟨rfl, HB3.out⟩
set_option maxRecDepth 100000 in
set_option maxHeartbeats 1600000 in
theorem capplys_long (A : Option Addr) (cap : Nat) (l : List Duo) (t : ByteArray) (w : World) (hI : Prs w A l) (hm : l.length ≤ maxLen) (hf : Fit2 l) (hg : cgreatB l = false) (ht : t.size ≤ maxLen) (hlt : 1000 < t.size) : Calls Try.prog 4 #[.slice A l.length cap, .string t] w fun e w' => e = .returned (.bool true) ∧ Below w.heap.size w w' := by
  have HI := Lib.hid hI
  have HG := Lib.hid (fun W h => cgreat_any A cap l W h hm hf)
  rw [hg] at HG
  unfold maxLen at ht
  clear hI hg hm hf
  generalize l.length = len at *
  go_enter Try.func4, Try.ntmps4
  go_wp2_with fail
  refine (cawake_any _).mono ?_
  rintro e w1 ⟨rfl, hb1⟩
  have HB1 := Lib.hid hb1
  clear hb1
  go_wp2_with fail
  refine (HG.out _ (HI.out.below HB1.out)).mono ?_
  rintro e w2 ⟨rfl, hb2⟩
  have HB2 := Lib.hid (hbt HB1.out hb2)
  clear hb2
  go_wp2_with fail
  refine (cawake_any _).mono ?_
  rintro e w3 ⟨rfl, hb3⟩
  have HB3 := Lib.hid (hbt HB2.out hb3)
  clear hb3
  go_wp2
  go_ret
  exact ⟨rfl, HB3.out⟩
set_option maxRecDepth 100000 in
set_option maxHeartbeats 3200000 in
theorem capplys_small (A : Option Addr) (cap : Nat) (l : List Duo) (t : ByteArray) (w : World) (hI : Prs w A l) (hf : Fit2 l) (hg : cgreatB l = false) (ht : t.size ≤ 1000) : Calls Try.prog 4 #[.slice A l.length cap, .string t] w fun e w' => e = .returned (.bool true) ∧ Below w.heap.size w w' := by
  have hl := cgreat_len hg
  have hm : l.length ≤ maxLen := by unfold maxLen; omega
  have HI := Lib.hid hI
  have HG := Lib.hid (fun W h => cgreat_any A cap l W h hm hf)
  have HC := Lib.hid (fun W h => ccopy_any A cap l W h (by omega))
  have HK := Lib.hid (fun W B c h => capply_any B c l t W h (by omega))
  have HR := Lib.hid (fun W h => crapply_any A cap l t W h (by omega))
  have HP : Hid (∀ (W : World) (base : Nat) (B : Option Addr) (c : Nat), W.ownsRow base _ 2 (.slice B l.length c) l.length (duosC l) → Prs W B l) := fun W base B c h => prs_row h rfl
  rw [hg] at HG
  clear hI hg hm hf hl
  generalize appS l t = x at *
  generalize appB l t = y at *
  generalize l.length = len at *
  go_enter Try.func4, Try.ntmps4
  go_wp2_with fail
  refine (cawake_any _).mono ?_
  rintro e w1 ⟨rfl, hb1⟩
  have HB1 := Lib.hid hb1
  clear hb1
  go_wp2_with fail
  refine (HG.out _ (HI.out.below HB1.out)).mono ?_
  rintro e w2 ⟨rfl, hb2⟩
  have HB2 := Lib.hid (hbt HB1.out hb2)
  clear hb2 HB1
  go_wp2_with fail
  refine (HC.out _ (HI.out.below HB2.out)).mono ?_
  rintro e w3 ⟨B, c, rfl, hT, hb3⟩
  have HT3 := Lib.hid (HP.out _ _ _ _ hT)
  have HB3 := Lib.hid (hbt HB2.out hb3)
  clear hb3 hT HB2
  go_wp2_with fail
  refine (HK.out _ _ _ HT3.out).mono ?_
  rintro e w4 ⟨rfl, hb4⟩
  have HB4 := Lib.hid (hbt HB3.out hb4)
  clear hb4 HB3
  go_wp2_with fail
  refine (HR.out _ (HI.out.below HB4.out)).mono ?_
  rintro e w5 ⟨rfl, rfl⟩
  go_wp2
  go_ret
  exact ⟨by simp, HB4.out⟩
theorem codesApply_walk (A : Option Addr) (cap : Nat) (l : List Duo) (t : ByteArray) (w : World) (hI : Prs w A l) (hm : l.length ≤ maxLen) (hf : Fit2 l) (ht : t.size ≤ maxLen) : Calls Try.prog 4 #[.slice A l.length cap, .string t] w fun e w' => e = .returned (.bool true) ∧ Below w.heap.size w w' := by
  cases hg : cgreatB l
  · by_cases hlt : 1000 < t.size
    · exact capplys_long A cap l t w hI hm hf hg ht hlt
    · exact capplys_small A cap l t w hI hf hg (by omega)
  · exact capplys_great A cap l t w hI hm hf hg

set_option maxRecDepth 100000 in
set_option maxHeartbeats 1600000 in
theorem cturns_great (A : Option Addr) (cap : Nat) (l : List Duo) (w : World) (hI : Prs w A l) (hm : l.length ≤ maxLen) (hf : Fit2 l) (hg : cgreatB l = true) : Calls Try.prog 5 #[.slice A l.length cap] w fun e w' => e = .returned (.bool true) ∧ Below w.heap.size w w' := by
  have HI := Lib.hid hI
  have HG := Lib.hid (fun W h => cgreat_any A cap l W h hm hf)
  rw [hg] at HG
  clear hI hg hm hf
  generalize l.length = len at *
  go_enter Try.func5, Try.ntmps5
  go_wp2_with fail
  refine (cawake_any _).mono ?_
  rintro e w1 ⟨rfl, hb1⟩
  have HB1 := Lib.hid hb1
  clear hb1
  go_wp2_with fail
  refine (HG.out _ (HI.out.below HB1.out)).mono ?_
  rintro e w2 ⟨rfl, hb2⟩
  have HB2 := Lib.hid (hbt HB1.out hb2)
  clear hb2
  go_wp2_with fail
  refine (cawake_any _).mono ?_
  rintro e w3 ⟨rfl, hb3⟩
  have HB3 := Lib.hid (hbt HB2.out hb3)
  clear hb3
  go_wp2
  go_ret
  exact ⟨rfl, HB3.out⟩
set_option maxRecDepth 100000 in
set_option maxHeartbeats 3200000 in
theorem cturns_small (A : Option Addr) (cap : Nat) (l : List Duo) (w : World) (hI : Prs w A l) (hf : Fit2 l) (hg : cgreatB l = false) : Calls Try.prog 5 #[.slice A l.length cap] w fun e w' => e = .returned (.bool true) ∧ Below w.heap.size w w' := by
  have hl := cgreat_len hg
  have hm : l.length ≤ maxLen := by unfold maxLen; omega
  have hl5 : l.length ≤ 5000000 := by omega
  have HI := Lib.hid hI
  have HG := Lib.hid (fun W h => cgreat_any A cap l W h hm hf)
  have HC := Lib.hid (fun W h => ccopy_any A cap l W h hl5)
  have HT := Lib.hid (fun W B c h => cturn_any B c l W h hl5)
  have HU := Lib.hid (fun W h => crturn_any A cap l W h hl5)
  have HV := Lib.hid (fun W B c h => cturn_any B c (turnL l) W h (by rw [turn_len]; exact hl5))
  have HS := Lib.hid (fun W B C cb cc hB hC => csame_yes B C cb cc (turnL l) W hB hC (by rw [turn_len]; exact hl5))
  have HE := Lib.hid (fun W B C cb cc hB hC => csame_yes B C cb cc l W hB hC hl5)
  have HP : Hid (∀ (W : World) (base : Nat) (B : Option Addr) (c : Nat), W.ownsRow base _ 2 (.slice B l.length c) l.length (duosC l) → Prs W B l) := fun W base B c h => prs_row h rfl
  rw [turn_len] at HV HS
  rw [turn_turn] at HV
  rw [hg] at HG
  clear hI hg hm hf hl hl5
  generalize turnL l = m at *
  generalize l.length = len at *
  go_enter Try.func5, Try.ntmps5
  go_wp2_with fail
  refine (cawake_any _).mono ?_
  rintro e w1 ⟨rfl, hb1⟩
  have HB1 := Lib.hid hb1
  clear hb1
  go_wp2_with fail
  refine (HG.out _ (HI.out.below HB1.out)).mono ?_
  rintro e w2 ⟨rfl, hb2⟩
  have HB2 := Lib.hid (hbt HB1.out hb2)
  clear hb2 HB1
  go_wp2_with fail
  refine (HC.out _ (HI.out.below HB2.out)).mono ?_
  rintro e w3 ⟨B, c, rfl, hT, hb3⟩
  have HT3 := Lib.hid (HP.out _ _ _ _ hT)
  have HB3 := Lib.hid (hbt HB2.out hb3)
  clear hb3 hT HB2
  go_wp2_with fail
  refine (HT.out _ _ _ HT3.out).mono ?_
  rintro e w4 ⟨D, d, rfl, hD, hb4⟩
  have HD4 := Lib.hid hD
  have HT4 := Lib.hid (HT3.out.below hb4)
  have HB4 := Lib.hid (hbt HB3.out hb4)
  clear hb4 hD HB3 HT3
  go_wp2_with fail
  refine (HU.out _ (HI.out.below HB4.out)).mono ?_
  rintro e w5 ⟨E, q, rfl, hE, hb5⟩
  have HE5 := Lib.hid hE
  have HD5 := Lib.hid (HD4.out.below hb5)
  have HT5 := Lib.hid (HT4.out.below hb5)
  have HB5 := Lib.hid (hbt HB4.out hb5)
  clear hb5 hE HB4 HT4 HD4
  go_wp2_with fail
  refine (HS.out _ _ _ _ _ HD5.out HE5.out).mono ?_
  rintro e w6 ⟨rfl, hb6⟩
  have HD6 := Lib.hid (HD5.out.below hb6)
  have HT6 := Lib.hid (HT5.out.below hb6)
  have HB6 := Lib.hid (hbt HB5.out hb6)
  clear hb6 HB5 HT5 HD5
  go_wp2_with fail
  refine (HV.out _ _ _ HD6.out).mono ?_
  rintro e w7 ⟨F, f, rfl, hF, hb7⟩
  have HF7 := Lib.hid hF
  have HT7 := Lib.hid (HT6.out.below hb7)
  have HB7 := Lib.hid (hbt HB6.out hb7)
  clear hb7 hF HB6 HT6 HD6
  go_wp2_with fail
  refine (HE.out _ _ _ _ _ HF7.out (HI.out.below HB7.out)).mono ?_
  rintro e w8 ⟨rfl, hb8⟩
  have HT8 := Lib.hid (HT7.out.below hb8)
  have HB8 := Lib.hid (hbt HB7.out hb8)
  clear hb8 HB7 HT7
  go_wp2_with fail
  refine (HE.out _ _ _ _ _ HT8.out (HI.out.below HB8.out)).mono ?_
  rintro e w9 ⟨rfl, hb9⟩
  have HB9 := Lib.hid (hbt HB8.out hb9)
  clear hb9 HB8
  go_wp2
  go_ret
  exact ⟨rfl, HB9.out⟩
theorem codesTurns_walk (A : Option Addr) (cap : Nat) (l : List Duo) (w : World) (hI : Prs w A l) (hm : l.length ≤ maxLen) (hf : Fit2 l) : Calls Try.prog 5 #[.slice A l.length cap] w fun e w' => e = .returned (.bool true) ∧ Below w.heap.size w w' := by
  cases hg : cgreatB l
  · exact cturns_small A cap l w hI hf hg
  · exact cturns_great A cap l w hI hm hf hg

end Go.Proofs.Ytelbndhdgnmfjaa
