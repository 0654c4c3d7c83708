/-
  What Find, great, has and Same answer: for every list, in every world.
-/
import Derived.Test.YtldicdjkgoncoaaTlvOf
import Derived.BigQuiet
import Derived.Deep.RegionWith
namespace Go.Proofs.Ytldicdjkgoncoaa
open Go.RowKit


set_option maxHeartbeats 1600000 in
theorem tlvfind_any (A : Option Addr) (cap : Nat) (l : List Item) (t : Int) (w : World) (hI : Tlvs w A l) (hn : l.length ≤ 100) :
    Calls Try.prog 17 #[.slice A l.length cap, .int .i64 t] w fun e w' => e = .returned (.tuple #[.string (findS l t), .bool (findB l t)]) ∧ Below w.heap.size w w' := by
  have HI := Lib.hid hI
  clear hI
  generalize hlen : l.length = len at *
  have HLEN := Lib.hid hlen
  clear hlen
  go_enter Try.func17, Try.ntmps17
  go_wp2
  go_loopw [10] (fun i wr => ∃ k : Nat, k ≤ len ∧ i = .int .i64 (k : Int) ∧ (∀ j, j < k → (itemAt l j).1 ≠ t) ∧ Below w.heap.size w wr) (fun i _ => len - (intOf i).toNat)
  case atStart => exact ⟨0, Nat.zero_le _, rfl, fun j hj => by omega, Below.refl _ _⟩
  case round =>
    obtain ⟨k, hk, rfl, hno, hb⟩ := hrel
    have HNO := Lib.hid hno
    have HB := Lib.hid hb
    clear hno hb
    by_cases hlt : k < len
    · obtain ⟨a, rfl, hc, hd⟩ := HI.out.below HB.out k (by have := HLEN.out; omega)
      generalize hx : itemAt l k = x at *
      have HX := Lib.hid hx
      clear hx
      obtain ⟨z, s⟩ := x
      dsimp only at hc hd
      by_cases hzt : z = t
      · subst hzt
        have HF := Lib.hid (find_hit (by have := HLEN.out; omega) HNO.out (by rw [HX.out]))
        rw [HX.out] at HF
        dsimp only at HF
        go_wp2
        go_ret2
        exact ⟨by rw [HF.out.1, HF.out.2]; rfl, hbt HB.out (below_al _ _)⟩
      · have hzt' : (z == t) = false := by simpa using hzt
        go_wp2
        go_roundw
        case rel =>
          refine ⟨k + 1, by omega, by go_num, fun j hj => ?_, hbt HB.out (below_al _ _)⟩
          rcases Nat.lt_or_ge j k with h | h
          · exact HNO.out j h
          · obtain rfl : j = k := by omega
            rw [HX.out]; exact hzt
        case measure => simp [intOf]; omega
    · have HF := Lib.hid (find_miss (l := l) (t := t) (fun j hj => HNO.out j (by have := HLEN.out; omega)))
      go_wp2
      go_ret2
      exact ⟨by rw [HF.out.1, HF.out.2]; rfl, HB.out⟩

set_option maxHeartbeats 1600000 in
theorem great_long (A : Option Addr) (cap n : Nat) (w : World) (hn : 60 < n) (hm : n ≤ maxLen) : Calls Try.prog 9 #[.slice A n cap] w fun e w' => e = .returned (.bool true) ∧ Below w.heap.size w w' := by
  unfold maxLen at hm
  go_enter Try.func9, Try.ntmps9
  go_wp2
  go_ret
  exact ⟨rfl, Below.refl _ _⟩
set_option maxHeartbeats 1600000 in
theorem great_short (A : Option Addr) (cap : Nat) (l : List Item) (w : World) (hI : Tlvs w A l) (hn : l.length ≤ 60) : Calls Try.prog 9 #[.slice A l.length cap] w fun e w' => e = .returned (.bool (greatB l)) ∧ Below w.heap.size w w' := by
  have HI := Lib.hid hI
  clear hI
  generalize hlen : l.length = len at *
  have HLEN := Lib.hid hlen
  clear hlen
  go_enter Try.func9, Try.ntmps9
  go_wp2
  go_loopw [10] (fun i wr => ∃ k : Nat, k ≤ len ∧ i = .int .i64 (k : Int) ∧ (∀ j, j < k → (itemAt l j).2.size ≤ 70000) ∧ Below w.heap.size w wr) (fun i _ => len - (intOf i).toNat)
  case atStart => exact ⟨0, Nat.zero_le _, rfl, fun j hj => by omega, Below.refl _ _⟩
  case round =>
    obtain ⟨k, hk, rfl, hno, hb⟩ := hrel
    have HNO := Lib.hid hno
    have HB := Lib.hid hb
    clear hno hb
    by_cases hlt : k < len
    · obtain ⟨a, rfl, hc, hd⟩ := HI.out.below HB.out k (by have := HLEN.out; omega)
      generalize hx : itemAt l k = x at *
      have HX := Lib.hid hx
      clear hx
      obtain ⟨z, s⟩ := x
      dsimp only at hc hd
      by_cases hzt : 70000 < s.size
      · have HF := Lib.hid (great_hit (l := l) (k := k) (by have := HLEN.out; omega) (by rw [HX.out]; exact hzt))
        go_wp2
        go_ret
        exact ⟨by rw [HF.out]; rfl, hbt HB.out (below_al _ _)⟩
      · go_wp2
        go_roundw
        case rel =>
          refine ⟨k + 1, by omega, by go_num, fun j hj => ?_, hbt HB.out (below_al _ _)⟩
          rcases Nat.lt_or_ge j k with h | h
          · exact HNO.out j h
          · obtain rfl : j = k := by omega
            rw [HX.out]; exact Nat.le_of_not_lt hzt
        case measure => simp [intOf]; omega
    · have HF := Lib.hid (great_miss (l := l) (by rw [HLEN.out]; exact hn) (fun j hj => HNO.out j (by have := HLEN.out; omega)))
      go_wp2
      go_ret
      exact ⟨by rw [HF.out]; rfl, HB.out⟩
theorem great_any (A : Option Addr) (cap : Nat) (l : List Item) (w : World) (hI : Tlvs w A l) (hm : l.length ≤ maxLen) : Calls Try.prog 9 #[.slice A l.length cap] w fun e w' => e = .returned (.bool (greatB l)) ∧ Below w.heap.size w w' := by
  by_cases h : 60 < l.length
  · rw [great_far h]; exact great_long A cap _ w h hm
  · exact great_short A cap l w hI (by omega)

set_option maxHeartbeats 1600000 in
theorem tlvhas_any (A : Option Addr) (cap : Nat) (l : List Item) (n : Nat) (t : Int) (w : World) (hI : Tlvs w A l) (hn : n ≤ l.length) (hl : l.length ≤ 5000000) :
    Calls Try.prog 20 #[.slice A l.length cap, .int .i64 (n : Int), .int .i64 t] w fun e w' => e = .returned (.bool (hasB l n t)) ∧ w = w' := by
  have HI := Lib.hid hI
  clear hI
  generalize hlen : l.length = len at *
  have HLEN := Lib.hid hlen
  clear hlen
  go_enter Try.func20, Try.ntmps20
  go_wp2
  go_loop [7] (fun i => ∃ k : Nat, k ≤ n ∧ i = .int .i64 (k : Int) ∧ (∀ j, j < k → (itemAt l j).1 ≠ t)) (fun i => n - (intOf i).toNat)
  case atStart => exact ⟨0, Nat.zero_le _, rfl, fun j hj => by omega⟩
  case round =>
    obtain ⟨k, hk, rfl, hno⟩ := hrel
    have HNO := Lib.hid hno
    clear hno
    by_cases hlt : k < n
    · obtain ⟨a, rfl, hc, hd⟩ := HI.out k (by have := HLEN.out; omega)
      have hkl : k < len := by omega
      generalize hx : itemAt l k = x at *
      have HX := Lib.hid hx
      clear hx
      obtain ⟨z, s⟩ := x
      dsimp only at hc hd
      by_cases hzt : z = t
      · have HF := Lib.hid (has_hit (l := l) (by rw [HLEN.out]; exact hn) hlt (by rw [HX.out]))
        subst hzt
        go_wp2
        go_ret
        exact ⟨by rw [HF.out]; rfl, rfl⟩
      · have hzt' : (z == t) = false := by simpa using hzt
        go_wp2
        go_round
        case rel =>
          refine ⟨k + 1, by omega, by go_num, fun j hj => ?_⟩
          rcases Nat.lt_or_ge j k with h | h
          · exact HNO.out j h
          · obtain rfl : j = k := by omega
            rw [HX.out]; exact hzt
        case measure => simp [intOf]; omega
    · have HF := Lib.hid (has_miss (l := l) (n := n) (by rw [HLEN.out]; exact hn) (fun j hj => HNO.out j (by omega)))
      go_wp2
      go_ret
      exact ⟨by rw [HF.out]; rfl, rfl⟩

set_option maxHeartbeats 1600000 in
theorem same_yes (A B : Option Addr) (ca cb : Nat) (l : List Item) (w : World) (hA : Tlvs w A l) (hB : Tlvs w B l) (hl : l.length ≤ 5000000) :
    Calls Try.prog 16 #[.slice A l.length ca, .slice B l.length cb] w fun e w' => e = .returned (.bool true) ∧ Below w.heap.size w w' := by
  have HA := Lib.hid hA
  have HB := Lib.hid hB
  clear hA hB
  generalize hlen : l.length = len at *
  have HLEN := Lib.hid hlen
  clear hlen
  go_enter Try.func16, Try.ntmps16
  go_wp2
  go_loopw [5] (fun i wr => ∃ k : Nat, k ≤ len ∧ i = .int .i64 (k : Int) ∧ Below w.heap.size w wr) (fun i _ => len - (intOf i).toNat)
  case atStart => exact ⟨0, Nat.zero_le _, rfl, Below.refl _ _⟩
  case round =>
    obtain ⟨k, hk, rfl, hb⟩ := hrel
    have HW := Lib.hid hb
    clear hb
    by_cases hlt : k < len
    · obtain ⟨a, rfl, hc, hd⟩ := HA.out.below HW.out k (by have := HLEN.out; omega)
      obtain ⟨b, rfl, he, hf⟩ := HB.out.below HW.out k (by have := HLEN.out; omega)
      generalize itemAt l k = x at *
      obtain ⟨z, s⟩ := x
      dsimp only at hc hd he hf
      go_wp2_with fail
      go_quiet (fail)
      go_wp2
      go_roundw
      case rel => exact ⟨k + 1, by omega, by go_num, hbt HW.out (below_drewN _ _)⟩
      case measure => simp [intOf]; omega
    · go_wp2
      go_ret
      exact ⟨rfl, HW.out⟩

end Go.Proofs.Ytldicdjkgoncoaa
