/-
  What both Gets answer: for every text, in every world.
-/
import Derived.Test.YtildjjcepafhmaaDigRefPut
import Derived.Test.YtildjjcepafhmaaDigPut
namespace Go.Proofs.Ytildjjcepafhmaa
open Go.RowKit

def getB (l : List UInt8) : Bool := decide (1 ≤ l.length) && decide (l.length ≤ 18) && allD l
def getN (l : List UInt8) : Int := if getB l = true then (numL l : Int) else 0
theorem getB_yes {l : List UInt8} (h1 : 1 ≤ l.length) (h2 : l.length ≤ 18) (h3 : allD l = true) : getB l = true := by simp [getB, h1, h2, h3]
theorem getB_no {l : List UInt8} (h : l.length < 1 ∨ 18 < l.length ∨ allD l = false) : getB l = false := by
  rcases h with h | h | h
  · simp [getB, show ¬ 1 ≤ l.length by omega]
  · simp [getB, show ¬ l.length ≤ 18 by omega]
  · simp [getB, h]
theorem getN_yes {l : List UInt8} (h : getB l = true) : getN l = numL l := by simp [getN, h]
theorem getN_no {l : List UInt8} (h : getB l = false) : getN l = 0 := by simp [getN, h]
theorem numL_step (s : ByteArray) (k : Nat) (h : k < s.size) : numL (s.data.toList.take (k + 1)) = 10 * numL (s.data.toList.take k) + (s[k].toNat - 48) := by
  rw [take_snoc s k h, numL_snoc]
theorem isD_at {s : ByteArray} (ha : allD s.data.toList = true) (k : Nat) (h : k < s.size) : isD s[k] = true := by
  unfold allD at ha
  rw [List.all_eq_true] at ha
  exact ha _ (by show s.data[k] ∈ s.data.toList; simp)
theorem numL_bd {s : ByteArray} (ha : allD s.data.toList = true) (k : Nat) (hk : k < s.size) (h : s.size ≤ 18) : numL (s.data.toList.take k) ≤ 100000000000000000 := by
  have h1 := numL_lt _ (allD_take ha k)
  have h2 := pow17 k (by omega)
  rw [List.length_take, Nat.min_eq_left (by simp; omega)] at h1
  omega

set_option maxHeartbeats 800000 in
theorem refGet_yes (s : ByteArray) (w : World) (h1 : 1 ≤ s.size) (h2 : s.size ≤ 18) (ha : allD s.data.toList = true) :
    Calls Try.prog 21 #[.string s] w fun e w' => e = .returned (.tuple #[.int .i64 (numL s.data.toList), .bool true]) ∧ w = w' := by
  have hall : ∀ w, Calls Try.prog 18 #[.string s] w fun e w' => e = .returned (.bool true) ∧ w = w' := by
    intro w
    have := refAll_any s w (by unfold maxLen; omega)
    rw [ha] at this
    exact this
  have HA := Lib.hid ha; clear ha
  have HL := Lib.hid hall; clear hall
  have t1 : decide ((s.size : Int) < 1) = false := by simp; omega
  have t2 : decide ((18 : Int) < (s.size : Int)) = false := by simp; omega
  go_enter Try.func21, Try.ntmps21
  go_wp2_with (go_at_call 18; refine (HL.out _).mono ?_; rintro e w' ⟨rfl, rfl⟩)
  go_loop [4, 5] (fun n i => ∃ k m : Nat, k ≤ s.size ∧ i = .int .i64 (k : Int) ∧ n = .int .i64 (m : Int) ∧ m = numL (s.data.toList.take k)) (fun _ i => s.size - (intOf i).toNat)
  case atStart => exact ⟨0, 0, Nat.zero_le _, rfl, rfl, rfl⟩
  case round =>
    obtain ⟨k, m, hk, rfl, rfl, hm⟩ := hrel
    have HM := Lib.hid hm; clear hm
    by_cases hlt : k < s.size
    · have hmb : m ≤ 100000000000000000 := by rw [HM.out]; exact numL_bd HA.out k hlt h2
      have hd := (isD_iff _).1 (isD_at HA.out k hlt)
      have g1 : 48 ≤ s[k].toNat := hd.1
      have g2 : s[k].toNat ≤ 57 := hd.2
      clear hd
      have HS := Lib.hid (numL_step s k hlt)
      go_wp2
      go_round
      case rel => exact ⟨k + 1, 10 * m + (s[k].toNat - 48), by omega, by go_num, by go_num, by rw [HS.out, HM.out]⟩
      case measure => simp [intOf]; omega
    · go_wp2
      go_ret2
      have h := HM.out
      rw [List.take_of_length_le (by simp; omega)] at h
      exact ⟨by rw [← h]; rfl, rfl⟩

set_option maxHeartbeats 800000 in
theorem refGet_no (s : ByteArray) (w : World) (hs : s.size ≤ maxLen) (h : s.size < 1 ∨ 18 < s.size ∨ allD s.data.toList = false) :
    Calls Try.prog 21 #[.string s] w fun e w' => e = .returned (.tuple #[.int .i64 0, .bool false]) ∧ w = w' := by
  have hall : ∀ w, Calls Try.prog 18 #[.string s] w fun e w' => e = .returned (.bool (allD s.data.toList)) ∧ w = w' := fun w => refAll_any s w hs
  unfold maxLen at hs
  have HL := Lib.hid hall; clear hall
  by_cases h1 : s.size < 1
  · clear h
    have t1 : decide ((s.size : Int) < 1) = true := by simp; omega
    go_enter Try.func21, Try.ntmps21
    go_wp2
    go_ret2
    exact ⟨rfl, rfl⟩
  · have t1 : decide ((s.size : Int) < 1) = false := by simp; omega
    by_cases h2 : 18 < s.size
    · clear h
      have t2 : decide ((18 : Int) < (s.size : Int)) = true := by simp; omega
      go_enter Try.func21, Try.ntmps21
      go_wp2
      go_ret2
      exact ⟨rfl, rfl⟩
    · have t2 : decide ((18 : Int) < (s.size : Int)) = false := by simp; omega
      have h3 : allD s.data.toList = false := by
        rcases h with h | h | h
        · omega
        · omega
        · exact h
      have HL2 : Hid (∀ w, Calls Try.prog 18 #[.string s] w fun e w' => e = .returned (.bool false) ∧ w = w') := by
        intro w
        have := HL.out w
        rw [h3] at this
        exact this
      clear h h3 HL
      go_enter Try.func21, Try.ntmps21
      go_wp2_with (go_at_call 18; refine (HL2.out _).mono ?_; rintro e w' ⟨rfl, rfl⟩)
      go_ret2
      exact ⟨rfl, rfl⟩
theorem refGet_any (s : ByteArray) (w : World) (hs : s.size ≤ maxLen) :
    Calls Try.prog 21 #[.string s] w fun e w' => e = .returned (.tuple #[.int .i64 (getN s.data.toList), .bool (getB s.data.toList)]) ∧ w = w' := by
  have hl : s.data.toList.length = s.size := by simp
  by_cases h : s.size < 1 ∨ 18 < s.size ∨ allD s.data.toList = false
  · have hb : getB s.data.toList = false := getB_no (by rw [hl]; exact h)
    rw [getN_no hb, hb]
    exact refGet_no s w hs h
  · have h1 : 1 ≤ s.size := by omega
    have h2 : s.size ≤ 18 := by omega
    have h3 : allD s.data.toList = true := by
      cases g : allD s.data.toList
      · exact absurd (Or.inr (Or.inr g)) h
      · rfl
    have hb : getB s.data.toList = true := getB_yes (by omega) (by omega) h3
    rw [getN_yes hb, hb]
    exact refGet_yes s w h1 h2 h3

set_option maxHeartbeats 800000 in
theorem get_yes (s : ByteArray) (w : World) (h1 : 1 ≤ s.size) (h2 : s.size ≤ 18) (ha : allD s.data.toList = true) :
    Calls Try.prog 17 #[.string s] w fun e w' => e = .returned (.tuple #[.int .i64 (numL s.data.toList), .bool true]) ∧ Below w.heap.size w w' := by
  have hall : ∀ w, Calls Try.prog 19 #[.string s] w fun e w' => e = .returned (.bool true) ∧ Below w.heap.size w w' := by
    intro w
    have := all_any s w
    rw [ha] at this
    exact this
  have HA := Lib.hid ha; clear ha
  have HL := Lib.hid hall; clear hall
  go_enter Try.func17, Try.ntmps17
  go_wp2_with (first | (go_at_call 24; refine (within_yes _ _ _ (by omega) (by omega)).mono ?_; rintro e w' ⟨rfl, rfl⟩) | (go_at_call 19; refine (HL.out _).mono ?_; rintro e w1 ⟨rfl, hb⟩))
  go_loopw [4] (fun n wr => ∃ k m : Nat, k ≤ s.size ∧ wr = w1.iter s k ∧ n = .int .i64 (m : Int) ∧ m = numL (s.data.toList.take k)) (fun _ wr => s.size - wr.iterPos w1.heap.size)
  case atStart => exact ⟨0, 0, Nat.zero_le _, rfl, rfl, rfl⟩
  case round =>
    obtain ⟨k, m, hk, rfl, rfl, hm⟩ := hrel
    have HM := Lib.hid hm; clear hm
    by_cases hlt : k < s.size
    · have hnx : ∀ ty, (Instr.next (.pointer (some ⟨w1.heap.size, 0, none⟩)) true ty).run Try.prog (w1.iter s k) = _ := fun ty => run_next_any w1 s k ty hlt
      have hmb : m ≤ 100000000000000000 := by rw [HM.out]; exact numL_bd HA.out k hlt h2
      have hd := (isD_iff _).1 (isD_at HA.out k hlt)
      rw [decode_ascii s k hlt (by omega)] at hnx
      have g1 : 48 ≤ s[k].toNat := hd.1
      have g2 : s[k].toNat ≤ 57 := hd.2
      clear hd
      have HS := Lib.hid (numL_step s k hlt)
      go_wp2
      go_roundw
      case rel => exact ⟨k + 1, 10 * m + (s[k].toNat - 48), by omega, rfl, by go_num, by rw [HS.out, HM.out]⟩
      case measure => simp; omega
    · have hnx : ∀ ty, (Instr.next (.pointer (some ⟨w1.heap.size, 0, none⟩)) true ty).run Try.prog (w1.iter s k) = _ := fun ty => run_next_end w1 s k ty hlt
      go_wp2
      go_ret2
      have h := HM.out
      rw [List.take_of_length_le (by simp; omega)] at h
      exact ⟨by rw [← h]; rfl, hb.alloc (by exact hb.size) _⟩

set_option maxHeartbeats 800000 in
theorem get_no (s : ByteArray) (w : World) (hs : s.size ≤ maxLen) (h : s.size < 1 ∨ 18 < s.size ∨ allD s.data.toList = false) :
    Calls Try.prog 17 #[.string s] w fun e w' => e = .returned (.tuple #[.int .i64 0, .bool false]) ∧ Below w.heap.size w w' := by
  unfold maxLen at hs
  by_cases h1 : s.size < 1 ∨ 18 < s.size
  · have H1 : Hid ((s.size : Int) < 1 ∨ 18 < (s.size : Int)) := by show _ ∨ _; omega
    clear h h1
    go_enter Try.func17, Try.ntmps17
    go_wp2_with (go_at_call 24; refine (within_no _ _ _ H1.out).mono ?_; rintro e w' ⟨rfl, rfl⟩)
    go_ret2
    exact ⟨rfl, Below.refl _ _⟩
  · have g1 : 1 ≤ s.size := by omega
    have g2 : s.size ≤ 18 := by omega
    have h3 : allD s.data.toList = false := by
      rcases h with h | h | h
      · omega
      · omega
      · exact h
    have hall : ∀ w, Calls Try.prog 19 #[.string s] w fun e w' => e = .returned (.bool false) ∧ Below w.heap.size w w' := by
      intro w
      have := all_any s w
      rw [h3] at this
      exact this
    have HL := Lib.hid hall; clear hall h h1 h3
    go_enter Try.func17, Try.ntmps17
    go_wp2_with (first | (go_at_call 24; refine (within_yes _ _ _ (by omega) (by omega)).mono ?_; rintro e w' ⟨rfl, rfl⟩) | (go_at_call 19; refine (HL.out _).mono ?_; rintro e w1 ⟨rfl, hb⟩))
    go_ret2
    exact ⟨rfl, hb⟩
theorem get_any (s : ByteArray) (w : World) (hs : s.size ≤ maxLen) :
    Calls Try.prog 17 #[.string s] w fun e w' => e = .returned (.tuple #[.int .i64 (getN s.data.toList), .bool (getB s.data.toList)]) ∧ Below w.heap.size w w' := by
  have hl : s.data.toList.length = s.size := by simp
  by_cases h : s.size < 1 ∨ 18 < s.size ∨ allD s.data.toList = false
  · have hb : getB s.data.toList = false := getB_no (by rw [hl]; exact h)
    rw [getN_no hb, hb]
    exact get_no s w hs h
  · have h1 : 1 ≤ s.size := by omega
    have h2 : s.size ≤ 18 := by omega
    have h3 : allD s.data.toList = true := by
      cases g : allD s.data.toList
      · exact absurd (Or.inr (Or.inr g)) h
      · rfl
    have hb : getB s.data.toList = true := getB_yes (by omega) (by omega) h3
    rw [getN_yes hb, hb]
    exact get_yes s w h1 h2 h3

end Go.Proofs.Ytildjjcepafhmaa
