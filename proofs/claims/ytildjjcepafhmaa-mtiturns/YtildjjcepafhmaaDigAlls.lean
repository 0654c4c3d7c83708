/-
  What Digit and both Alls answer: for every text, in every world.
-/
import Derived.Test.YtildjjcepafhmaaRows
import Derived.Test.YtildjjcepafhmaaDigMath
import Derived.WalkKit
import Derived.WalkSpells
import Derived.WalkLawsBesides
import Derived.Lib.Hide
namespace Go.Proofs.Ytildjjcepafhmaa
open Go.RowKit

set_option maxHeartbeats 400000 in
theorem digit_any (c : Int) (w : World) :
    Calls Try.prog 25 #[.int .u8 c] w fun e w' => e = .returned (.bool (decide (48 ≤ c) && decide (c ≤ 57))) ∧ w = w' := by
  go_enter Try.func25, Try.ntmps25
  go_wp2
  all_goals go_ret
  · exact ⟨by simp [*], rfl⟩
  · exact ⟨by simp [show ¬ 48 ≤ c by omega], rfl⟩
theorem digit_byte (c : UInt8) (w : World) :
    Calls Try.prog 25 #[.int .u8 (c.toNat : Int)] w fun e w' => e = .returned (.bool (isD c)) ∧ w = w' := by
  refine (digit_any _ w).mono fun e w' h => ?_
  have e1 : (decide ((48 : Int) ≤ (c.toNat : Int)) && decide ((c.toNat : Int) ≤ 57)) = isD c := by
    unfold isD
    rw [Bool.eq_iff_iff]
    simp
    omega
  rw [e1] at h
  exact h

theorem take_snoc (s : ByteArray) (k : Nat) (h : k < s.size) : s.data.toList.take (k + 1) = s.data.toList.take k ++ [s[k]] := by
  rw [List.take_succ_eq_append_getElem (by simpa using h)]; rfl
theorem allD_step (s : ByteArray) (k : Nat) (h : k < s.size) : allD (s.data.toList.take (k + 1)) = (allD (s.data.toList.take k) && isD s[k]) := by
  rw [take_snoc s k h, allD_snoc]
theorem allD_bad (s : ByteArray) (k : Nat) (h : k < s.size) (hb : isD s[k] = false) : allD s.data.toList = false := by
  unfold allD
  rw [List.all_eq_false]
  exact ⟨s[k], by show s.data[k] ∈ s.data.toList; simp, by simp [hb]⟩

set_option maxHeartbeats 800000 in
theorem refAll_any (s : ByteArray) (w : World) (hs : s.size ≤ maxLen) :
    Calls Try.prog 18 #[.string s] w fun e w' => e = .returned (.bool (allD s.data.toList)) ∧ w = w' := by
  unfold maxLen at hs
  go_enter Try.func18, Try.ntmps18
  go_wp2
  go_loop [3] (fun i => ∃ k : Nat, k ≤ s.size ∧ i = .int .i64 k ∧ allD (s.data.toList.take k) = true) (fun i => s.size - (intOf i).toNat)
  case atStart => exact ⟨0, Nat.zero_le _, rfl, rfl⟩
  case round =>
    obtain ⟨k, hk, rfl, ha⟩ := hrel
    by_cases hlt : k < s.size
    · have hst := allD_step s k hlt
      have hbad := allD_bad s k hlt
      rw [ha] at hst
      cases hd : isD s[k]
      · have HB := Lib.hid (hbad hd); clear hbad hst ha
        have hdc : Calls Try.prog 25 #[.int .u8 ((s[k].toNat : Nat) : Int)] w fun e w' => e = .returned (.bool false) ∧ w = w' := by
          have := digit_byte s[k] w; rw [hd] at this; exact this
        have HD := Lib.hid hdc; clear hdc hd
        go_wp2_with (go_at_call 25; refine HD.out.mono ?_; rintro e w' ⟨rfl, rfl⟩)
        go_ret
        exact ⟨by rw [HB.out]; rfl, rfl⟩
      · rw [hd] at hst
        have HS := Lib.hid hst; clear hbad hst ha
        have hdc : Calls Try.prog 25 #[.int .u8 ((s[k].toNat : Nat) : Int)] w fun e w' => e = .returned (.bool true) ∧ w = w' := by
          have := digit_byte s[k] w; rw [hd] at this; exact this
        have HD := Lib.hid hdc; clear hdc hd
        go_wp2_with (go_at_call 25; refine HD.out.mono ?_; rintro e w' ⟨rfl, rfl⟩)
        go_round
        case rel => exact ⟨k + 1, by omega, by go_num, by rw [HS.out]; rfl⟩
        case measure => simp [intOf]; omega
    · have HA := Lib.hid ha; clear ha
      go_wp2
      go_ret
      have h := HA.out
      rw [List.take_of_length_le (by simp; omega)] at h
      exact ⟨by rw [h]; rfl, rfl⟩

set_option maxHeartbeats 800000 in
theorem all_any (s : ByteArray) (w : World) :
    Calls Try.prog 19 #[.string s] w fun e w' => e = .returned (.bool (allD s.data.toList)) ∧ Below w.heap.size w w' := by
  go_enter Try.func19, Try.ntmps19
  go_wp2
  go_loopw [] (fun w' => ∃ k : Nat, k ≤ s.size ∧ w' = w.iter s k ∧ allD (s.data.toList.take k) = true) (fun w' => s.size - w'.iterPos w.heap.size)
  case atStart => exact ⟨0, Nat.zero_le _, rfl, rfl⟩
  case round =>
    obtain ⟨k, hk, rfl, ha⟩ := hrel
    by_cases hlt : k < s.size
    · have hst := allD_step s k hlt
      have hbad := allD_bad s k hlt
      rw [ha] at hst
      have hnx : ∀ ty, (Instr.next (.pointer (some ⟨w.heap.size, 0, none⟩)) true ty).run Try.prog (w.iter s k) = _ := fun ty => run_next_any w s k ty hlt
      cases hd : isD s[k]
      · have HB := Lib.hid (hbad hd); clear hbad hst ha
        rw [isD_false] at hd
        have hr : ((Utf8.decode s k).1 : Int) < 48 ∨ 57 < ((Utf8.decode s k).1 : Int) := by
          by_cases h8 : s[k].toNat < 128
          · rw [decode_ascii s k hlt h8]; dsimp only; omega
          · have := (decode_high s k hlt (by omega)).1; omega
        clear hd
        by_cases h1 : ((Utf8.decode s k).1 : Int) < 48
        · clear hr
          go_wp2
          go_ret
          exact ⟨by rw [HB.out]; rfl, (Below.refl _ _).alloc (Nat.le_refl _) _⟩
        · have h2 : 57 < ((Utf8.decode s k).1 : Int) := by omega
          clear hr
          go_wp2
          go_ret
          exact ⟨by rw [HB.out]; rfl, (Below.refl _ _).alloc (Nat.le_refl _) _⟩
      · rw [hd] at hst
        have HS := Lib.hid hst; clear hbad hst ha
        rw [isD_iff] at hd
        have hde := decode_ascii s k hlt (by omega)
        rw [hde] at hnx
        have h1 : (48 : Int) ≤ (s[k].toNat : Int) := by omega
        have h2 : (s[k].toNat : Int) ≤ 57 := by omega
        clear hd hde
        go_wp2
        go_roundw
        case rel => exact ⟨k + 1, by omega, rfl, by rw [HS.out]; rfl⟩
        case measure => simp; omega
    · have HA := Lib.hid ha; clear ha
      have hnx : ∀ ty, (Instr.next (.pointer (some ⟨w.heap.size, 0, none⟩)) true ty).run Try.prog (w.iter s k) = _ := fun ty => run_next_end w s k ty hlt
      go_wp2
      go_ret
      have h := HA.out
      rw [List.take_of_length_le (by simp; omega)] at h
      exact ⟨by rw [h]; rfl, (Below.refl _ _).alloc (Nat.le_refl _) _⟩

end Go.Proofs.Ytildjjcepafhmaa
