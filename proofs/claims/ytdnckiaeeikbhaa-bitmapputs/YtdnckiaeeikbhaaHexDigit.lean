/-
  What Digit, wrong, Digits and Worth answer: for every byte or text, in every world.
-/
import Derived.Test.YtdnckiaeeikbhaaRows
import Derived.Test.YtdnckiaeeikbhaaHexMath
import Derived.WalkKit
import Derived.WalkSpells
import Derived.WalkLawsBesides
import Derived.Lib.Hide
namespace Go.Proofs.Ytdnckiaeeikbhaa
open Go.RowKit

def xdigits : ByteArray := ⟨#[48, 49, 50, 51, 52, 53, 54, 55, 56, 57, 65, 66, 67, 68, 69, 70]⟩
theorem xdigits_at : ∀ (n : Nat) (h : n < xdigits.size), xdigits[n] = xd n := by decide +kernel

theorem digits_any (w : World) : Calls Try.prog 31 #[] w fun e w' => e = .returned (.string xdigits) ∧ w = w' := by
  go_enter Try.func31, Try.ntmps31
  go_wp2
  go_ret
  exact ⟨rfl, rfl⟩

set_option maxHeartbeats 400000 in
theorem digit_no (c : UInt8) (w : World) (h : isX c = false) :
    Calls Try.prog 39 #[.int .u8 (c.toNat : Int)] w fun e w' => e = .returned (.tuple #[.int .i64 0, .bool false]) ∧ w = w' := by
  rw [isX_false] at h
  have hc := c.toNat_lt
  rcases h with h | ⟨h, h'⟩ | h
  all_goals
    go_enter Try.func39, Try.ntmps39
    go_wp2
    go_ret2
    exact ⟨rfl, rfl⟩
set_option maxHeartbeats 400000 in
theorem digit_yes (c : UInt8) (w : World) (h : isX c = true) :
    Calls Try.prog 39 #[.int .u8 (c.toNat : Int)] w fun e w' => e = .returned (.tuple #[.int .i64 (xv c : Int), .bool true]) ∧ w = w' := by
  rw [isX_iff] at h
  have hc := c.toNat_lt
  rcases h with ⟨h, h'⟩ | ⟨h, h'⟩
  · have e : ((c.toNat : Int) - 48) = (xv c : Int) := by unfold xv; rw [if_pos h']; omega
    have E := Lib.hid e; clear e
    go_enter Try.func39, Try.ntmps39
    go_wp2
    go_ret2
    exact ⟨by rw [← E.out]; rfl, rfl⟩
  · have e : ((c.toNat : Int) - 65 + 10) = (xv c : Int) := by unfold xv; rw [if_neg (by omega)]; omega
    have E := Lib.hid e; clear e
    go_enter Try.func39, Try.ntmps39
    go_wp2
    go_ret2
    exact ⟨by rw [← E.out]; rfl, rfl⟩
theorem hdigit_any (c : UInt8) (w : World) :
    Calls Try.prog 39 #[.int .u8 (c.toNat : Int)] w fun e w' => e = .returned (.tuple #[.int .i64 (xw c), .bool (isX c)]) ∧ w = w' := by
  cases h : isX c
  · rw [xw_no h]; exact digit_no c w h
  · rw [xw_yes h]; exact digit_yes c w h

set_option maxHeartbeats 800000 in
theorem worth_any (c : UInt8) (w : World) :
    Calls Try.prog 40 #[.int .u8 (c.toNat : Int)] w fun e w' => e = .returned (.int .i64 (xW c)) ∧ w = w' := by
  go_enter Try.func40, Try.ntmps40
  go_wp2
  go_loop [3] (fun i => ∃ k : Nat, k ≤ 16 ∧ i = .int .i64 (k : Int) ∧ ∀ j, j < k → xd j ≠ c) (fun i => 16 - (intOf i).toNat)
  case atStart => exact ⟨0, by omega, rfl, by omega⟩
  case round =>
    obtain ⟨k, hk, rfl, ha⟩ := hrel
    have HA := Lib.hid ha; clear ha
    by_cases hlt : k < 16
    · have hsz : k < xdigits.size := hlt
      have hx := xdigits_at k hsz
      by_cases he : xd k = c
      · obtain ⟨h1, h2⟩ := xd_inj k hlt he
        have e : xW c = (k : Int) := by rw [xW_yes h1, h2]
        have E := Lib.hid e; clear e h1 h2
        have t : ((xdigits[k].toNat : Int) == (c.toNat : Int)) = true := by rw [hx, he]; simp
        have HX := Lib.hid hx; clear hx he
        go_wp2_with (go_at_call 31; refine (digits_any _).mono ?_; rintro e w' ⟨rfl, rfl⟩)
        go_ret
        exact ⟨by rw [E.out]; rfl, rfl⟩
      · have t : ((xdigits[k].toNat : Int) == (c.toNat : Int)) = false := by
          rw [hx]
          apply beq_false_of_ne
          intro h
          exact he (UInt8.toNat_inj.1 (by omega))
        have HE := Lib.hid he
        have HX := Lib.hid hx; clear hx he
        go_wp2_with (go_at_call 31; refine (digits_any _).mono ?_; rintro e w' ⟨rfl, rfl⟩)
        go_round
        case rel => exact ⟨k + 1, by omega, by go_num, fun j hj => by
          by_cases g : j = k
          · rw [g]; exact HE.out
          · exact HA.out j (by omega)⟩
        case measure => simp [intOf]; omega
    · have e : xW c = -1 := by
        cases g : isX c
        · exact xW_no g
        · exact absurd (xd_xv g) (HA.out _ (by have := xv_lt g; omega))
      have E := Lib.hid e; clear e
      go_wp2
      go_ret
      exact ⟨by rw [E.out]; rfl, rfl⟩

theorem take_snoc' (s : ByteArray) (k : Nat) (h : k < s.size) : s.data.toList.take (k + 1) = s.data.toList.take k ++ [s[k]] := by
  rw [List.take_succ_eq_append_getElem (by simpa using h)]; rfl
theorem allX_step (s : ByteArray) (k : Nat) (h : k < s.size) (ha : (s.data.toList.take k).all isX = true) (hb : isX s[k] = true) : (s.data.toList.take (k + 1)).all isX = true := by
  rw [take_snoc' s k h, List.all_append, ha]; simp [hb]

set_option maxHeartbeats 800000 in
theorem wrong_any (s : ByteArray) (w : World) (hs : s.size ≤ maxLen) :
    Calls Try.prog 38 #[.string s] w fun e w' => e = .returned (.int .i64 (hbad s.data.toList : Int)) ∧ w = w' := by
  unfold maxLen at hs
  go_enter Try.func38, Try.ntmps38
  go_wp2
  go_loop [8] (fun i => ∃ k : Nat, k ≤ s.size ∧ i = .int .i64 (k : Int) ∧ (s.data.toList.take k).all isX = true) (fun i => s.size - (intOf i).toNat)
  case atStart => exact ⟨0, Nat.zero_le _, rfl, rfl⟩
  case round =>
    obtain ⟨k, hk, rfl, ha⟩ := hrel
    have HA := Lib.hid ha; clear ha
    by_cases hlt : k < s.size
    · cases hd : isX s[k]
      · have hb : hbad s.data.toList = k := hbad_at (by simpa using hlt) HA.out hd
        have HB := Lib.hid hb; clear hb
        have HD := Lib.hid hd; clear hd
        go_wp2_with (go_at_call 39; refine (digit_no s[k] _ HD.out).mono ?_; rintro e w' ⟨rfl, rfl⟩)
        go_ret
        exact ⟨by rw [HB.out]; rfl, rfl⟩
      · have HD := Lib.hid hd; clear hd
        go_wp2_with (go_at_call 39; refine (digit_yes s[k] _ HD.out).mono ?_; rintro e w' ⟨rfl, rfl⟩)
        go_round
        case rel => exact ⟨k + 1, by omega, by go_num, allX_step s k hlt HA.out HD.out⟩
        case measure => simp [intOf]; omega
    · have hall : s.data.toList.all isX = true := by
        have h := HA.out
        rwa [List.take_of_length_le (by simp; omega)] at h
      have hb : hbad s.data.toList = s.size := by rw [hbad_all hall]; simp
      have HB := Lib.hid hb; clear hb hall
      go_wp2
      go_ret
      exact ⟨by rw [HB.out]; rfl, rfl⟩

end Go.Proofs.Ytdnckiaeeikbhaa
