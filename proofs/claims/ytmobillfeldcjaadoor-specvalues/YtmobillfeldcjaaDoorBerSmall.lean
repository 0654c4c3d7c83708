/-
  What Size and number answer: for every number, and every text of one or two bytes, in every world.
-/
import Derived.Test.YtmobillfeldcjaaDoorBerMath
namespace Go.Proofs.YtmobillfeldcjaaDoor
open Go.RowKit

theorem bersize_far (n : Int) (w : World) (h : n < 0 ∨ 65535 < n) : Calls Tryd.prog 40 #[.int .i64 n] w fun e w' => e = .returned (.int .i64 0) ∧ w = w' := by
  by_cases h0 : n < 0
  · clear h
    go_enter Tryd.func40, Tryd.ntmps40
    go_wp2
    go_ret
    exact ⟨rfl, rfl⟩
  · have h1 : decide (n < 0) = false := by simpa using h0
    have h2 : 65535 < n := by omega
    clear h h0
    go_enter Tryd.func40, Tryd.ntmps40
    go_wp2
    go_ret
    exact ⟨rfl, rfl⟩

theorem bersize_any (n : Nat) (w : World) (h : n < 65536) : Calls Tryd.prog 40 #[.int .i64 (n : Int)] w fun e w' => e = .returned (.int .i64 (berSz n : Int)) ∧ w = w' := by
  have t1 : decide ((n : Int) < 0) = false := by simp
  have t2 : decide ((65535 : Int) < (n : Int)) = false := by simp; omega
  by_cases h1 : n < 128
  · rw [berSz_one h1]
    have t3 : decide ((255 : Int) < (n : Int)) = false := by simp; omega
    have t4 : decide ((128 : Int) ≤ (n : Int)) = false := by simp; omega
    clear h h1
    go_enter Tryd.func40, Tryd.ntmps40
    go_wp2
    go_ret
    exact ⟨rfl, rfl⟩
  by_cases h2 : n < 256
  · rw [berSz_two (by omega) h2]
    have t3 : decide ((255 : Int) < (n : Int)) = false := by simp; omega
    have t4 : decide ((128 : Int) ≤ (n : Int)) = true := by simp; omega
    clear h h1 h2
    go_enter Tryd.func40, Tryd.ntmps40
    go_wp2
    go_ret
    exact ⟨rfl, rfl⟩
  · rw [berSz_three (by omega)]
    have t3 : decide ((255 : Int) < (n : Int)) = true := by simp; omega
    have t4 : decide ((128 : Int) ≤ (n : Int)) = true := by simp; omega
    clear h h1 h2
    go_enter Tryd.func40, Tryd.ntmps40
    go_wp2
    go_ret
    exact ⟨rfl, rfl⟩

/-- What bytes tell, the highest one first. -/
def berNum (l : List UInt8) : Nat := l.foldl (fun n c => 256 * n + c.toNat) 0
theorem berNum_snoc (l : List UInt8) (c : UInt8) : berNum (l ++ [c]) = 256 * berNum l + c.toNat := by simp [berNum, List.foldl_append]
theorem berNum_step (s : ByteArray) (k : Nat) (h : k < s.size) : berNum (s.data.toList.take (k + 1)) = 256 * berNum (s.data.toList.take k) + s[k].toNat := by
  rw [List.take_succ_eq_append_getElem (by simpa using h), berNum_snoc]; rfl
theorem berNum_few (l : List UInt8) (h : l.length ≤ 1) : berNum l < 256 := by
  match l with
  | [] => exact (by decide)
  | [c] => have := c.toNat_lt; show 256 * 0 + c.toNat < 256; omega
  | _ :: _ :: _ => simp at h

set_option maxHeartbeats 800000 in
theorem number_any (s : ByteArray) (w : World) (hs : s.size ≤ 2) : Calls Tryd.prog 39 #[.string s] w fun e w' => e = .returned (.int .i64 (berNum s.data.toList : Int)) ∧ w = w' := by
  go_enter Tryd.func39, Tryd.ntmps39
  go_wp2
  go_loop [3, 7] (fun n i => ∃ k m : Nat, k ≤ s.size ∧ i = .int .i64 (k : Int) ∧ n = .int .i64 (m : Int) ∧ m = berNum (s.data.toList.take k)) (fun _ i => s.size - (intOf i).toNat)
  case atStart => exact ⟨0, 0, Nat.zero_le _, rfl, rfl, rfl⟩
  case round =>
    obtain ⟨k, m, hk, rfl, rfl, hm⟩ := hrel
    have HM := Lib.hid hm; clear hm
    by_cases hlt : k < s.size
    · have hmb : m < 256 := by rw [HM.out]; exact berNum_few _ (by rw [List.length_take]; omega)
      have hc := s[k].toNat_lt
      have hst := berNum_step s k hlt
      have hix := ix_str s k hlt
      generalize s[k].toNat = c at *
      have hj := tag_join m c hmb hc
      have HS := Lib.hid hst
      have hm1 : (m : Int) < 256 := by omega
      have hc1 : (c : Int) < 256 := by omega
      obtain ⟨z, hz⟩ : ∃ z, z = 256 * m + c := ⟨_, rfl⟩
      rw [← hz] at hj
      have HZ := Lib.hid hz
      clear hst hmb hc hz
      go_wp2
      go_round
      case rel => exact ⟨k + 1, z, by omega, by go_num, by go_num, by rw [HS.out, HZ.out, HM.out]⟩
      case measure => simp [intOf]; omega
    · go_wp2
      go_ret
      have h := HM.out
      rw [List.take_of_length_le (by simp; omega)] at h
      exact ⟨by rw [← h]; rfl, rfl⟩

end Go.Proofs.YtmobillfeldcjaaDoor
