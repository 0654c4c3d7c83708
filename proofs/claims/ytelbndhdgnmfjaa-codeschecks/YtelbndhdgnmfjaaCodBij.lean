/-
  What Bijective and the document's Bijective answer: for every list, in every world.
-/
import Derived.Test.YtelbndhdgnmfjaaCodCheck
import Derived.Test.YtelbndhdgnmfjaaCodTurn
namespace Go.Proofs.Ytelbndhdgnmfjaa
open Go.RowKit

theorem turn_maxlen {l : List Duo} (h : l.length ≤ maxLen) : (turnL l).length ≤ maxLen := by rw [turn_len]; exact h
set_option maxRecDepth 100000 in
set_option maxHeartbeats 1600000 in
theorem cbij_any (A : Option Addr) (cap : Nat) (l : List Duo) (w : World) (hI : Prs w A l) (hm : l.length ≤ maxLen) (hf : Fit2 l) :
    Calls Try.prog 13 #[.slice A l.length cap] w fun e w' => e = .returned (.bool (bijB l)) ∧ Below w.heap.size w w' := by
  have HC := Lib.hid (ccheck_any A cap l w hI hm hf)
  by_cases h : (tabN l).1 = 0
  · have hl := (tab_zero.1 h).1
    have HT := Lib.hid (fun W h => cturn_any A cap l W h (by omega))
    have HD := Lib.hid (fun W B c h => ccheck_any B c (turnL l) W h (turn_maxlen hm) hf.turn)
    have HR : Hid (bijB l = decide ((tabN (turnL l)).1 = 0)) := by show _ = _; simp [bijB, h]
    have HI := Lib.hid hI
    rw [turn_len] at HD
    rw [HR.out]
    rw [h] at HC
    clear h hI hm hf HR
    generalize (tabN l).2 = y at *
    generalize (tabN (turnL l)).1 = q at *
    generalize (tabN (turnL l)).2 = z at *
    generalize l.length = len at *
    have hq : ((q : Int) == 0) = decide (q = 0) := by by_cases h : q = 0 <;> simp [h]
    rw [← hq]
    clear hq hl
    go_enter Try.func13, Try.ntmps13
    go_wp2_with fail
    refine HC.out.mono ?_
    rintro e w1 ⟨rfl, hb1⟩
    have HB1 := Lib.hid hb1
    clear hb1
    go_wp2_with fail
    refine (HT.out _ (HI.out.below HB1.out)).mono ?_
    rintro e w2 ⟨B, c, rfl, hT, hb2⟩
    have HP2 := Lib.hid hT
    have HB2 := Lib.hid (hbt HB1.out hb2)
    clear hT hb2
    go_wp2_with fail
    refine (HD.out _ _ _ HP2.out).mono ?_
    rintro e w3 ⟨rfl, hb3⟩
    have HB3 := Lib.hid (hbt HB2.out hb3)
    clear hb3
    go_wp2
    go_ret
    exact ⟨rfl, HB3.out⟩
  · have HR : Hid (bijB l = false) := by show _ = _; simp [bijB, h]
    rw [HR.out]
    have h' : (((tabN l).1 : Int) != 0) = true := by simp; omega
    generalize (tabN l).1 = x at *
    generalize (tabN l).2 = y at *
    generalize l.length = len at *
    clear h HR hf hm hI
    go_enter Try.func13, Try.ntmps13
    go_wp2_with fail
    refine HC.out.mono ?_
    rintro e w1 ⟨rfl, hb1⟩
    go_wp2
    go_ret
    exact ⟨rfl, hb1⟩
set_option maxRecDepth 100000 in
set_option maxHeartbeats 1600000 in
theorem crbij_any (A : Option Addr) (cap : Nat) (l : List Duo) (w : World) (hI : Prs w A l) (hl : l.length ≤ 400) :
    Calls Try.prog 14 #[.slice A l.length cap] w fun e w' => e = .returned (.bool (bijB l)) ∧ Below w.heap.size w w' := by
  have HC := Lib.hid (crcheck_any A cap l w hI (by unfold maxLen; omega))
  have HT := Lib.hid (fun W h => crturn_any A cap l W h (by omega))
  have HD := Lib.hid (fun W B c h => crcheck_any B c (turnL l) W h (by rw [turn_len]; unfold maxLen; omega))
  have HI := Lib.hid hI
  rw [turn_len] at HD
  clear hI
  have HR : Hid (bijB l = (decide ((tabN l).1 = 0) && decide ((tabN (turnL l)).1 = 0))) := rfl
  rw [HR.out]
  clear HR
  generalize (tabN l).1 = x at *
  generalize (tabN l).2 = y at *
  generalize (tabN (turnL l)).1 = q at *
  generalize (tabN (turnL l)).2 = z at *
  generalize l.length = len at *
  clear hl
  by_cases hx : x = 0
  · subst hx
    have hq : ((q : Int) == 0) = decide (q = 0) := by by_cases h : q = 0 <;> simp [h]
    have HQ := Lib.hid hq
    clear hq
    go_enter Try.func14, Try.ntmps14
    go_wp2_with fail
    refine HC.out.mono ?_
    rintro e w1 ⟨rfl, rfl⟩
    go_wp2_with fail
    refine (HT.out _ HI.out).mono ?_
    rintro e w2 ⟨B, c, rfl, hT, hb2⟩
    have HP2 := Lib.hid hT
    have HB2 := Lib.hid hb2
    clear hT hb2
    go_wp2_with fail
    refine (HD.out _ _ _ HP2.out).mono ?_
    rintro e w3 ⟨rfl, rfl⟩
    go_wp2
    go_ret
    exact ⟨by rw [← HQ.out]; rfl, HB2.out⟩
  · have hx' : ((x : Int) == 0) = false := by simp; omega
    have HX : Hid ((decide (x = 0) && decide (q = 0)) = false) := by show _ = _; simp [hx]
    rw [HX.out]
    clear hx
    go_enter Try.func14, Try.ntmps14
    go_wp2_with fail
    refine HC.out.mono ?_
    rintro e w1 ⟨rfl, rfl⟩
    go_wp2_with fail
    refine (HT.out _ HI.out).mono ?_
    rintro e w2 ⟨B, c, rfl, hT, hb2⟩
    have HP2 := Lib.hid hT
    have HB2 := Lib.hid hb2
    clear hT hb2
    go_wp2_with fail
    refine (HD.out _ _ _ HP2.out).mono ?_
    rintro e w3 ⟨rfl, rfl⟩
    go_wp2
    go_ret
    exact ⟨rfl, HB2.out⟩

end Go.Proofs.Ytelbndhdgnmfjaa
