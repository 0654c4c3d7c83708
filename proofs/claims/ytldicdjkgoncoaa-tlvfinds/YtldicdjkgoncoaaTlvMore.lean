/-
  TlvPuts and TlvFinds: for every input, in every world.
-/
import Derived.Test.YtldicdjkgoncoaaTlvAwake
import Derived.Test.YtldicdjkgoncoaaTlvRefPut
namespace Go.Proofs.Ytldicdjkgoncoaa
open Go.RowKit Go.Maps

set_option maxRecDepth 100000 in
set_option maxHeartbeats 3200000 in
theorem tlvputs_great (A : Option Addr) (cap : Nat) (l : List Item) (w : World) (hI : Tlvs w A l) (hm : l.length ≤ maxLen) (hg : greatB l = true) : Calls Try.prog 3 #[.slice A l.length cap] w fun e w' => e = .returned (.bool true) ∧ Below w.heap.size w w' := by
  have HI := Lib.hid hI
  have HG := Lib.hid (fun W h => great_any A cap l W h hm)
  rw [hg] at HG
  clear hI hg hm
  generalize l.length = len at *
  go_enter Try.func3, Try.ntmps3
  go_wp2_with fail
  refine (tlvawake_any _).mono ?_
  rintro e w1 ⟨rfl, hb1⟩
  have HB1 := Lib.hid hb1
  clear hb1
  go_wp2_with fail
  refine (HG.out _ (HI.out.below HB1.out)).mono ?_
  rintro e w2 ⟨rfl, hb2⟩
  have HB2 := Lib.hid (hbt HB1.out hb2)
  clear hb2
  go_wp2_with fail
  refine (tlvawake_any _).mono ?_
  rintro e w3 ⟨rfl, hb3⟩
  have HB3 := Lib.hid (hbt HB2.out hb3)
  clear hb3
  go_wp2
  go_ret
  exact ⟨rfl, HB3.out⟩

set_option maxRecDepth 100000 in
set_option maxHeartbeats 3200000 in
theorem tlvputs_no (A : Option Addr) (cap : Nat) (l : List Item) (w : World) (hI : Tlvs w A l) (hm : l.length ≤ maxLen) (hf : Fine l) (hg : greatB l = false) (hc : (chk l).1 ≠ 0) : Calls Try.prog 3 #[.slice A l.length cap] w fun e w' => e = .returned (.bool true) ∧ Below w.heap.size w w' := by
  have HI := Lib.hid hI
  have HG := Lib.hid (fun W h => great_any A cap l W h hm)
  have hl := (not_great hg).1
  have HC := Lib.hid (fun A' c' W h => tlvcheck_any A' c' l W h (by omega) hf)
  have HD := Lib.hid (fun W h => tlvrefCheck_any A cap l W h (by omega) hf)
  have HP := Lib.hid (fun A' c' W h => tlvput_no A' c' l W h (by omega) hf hc)
  have hc' : (((chk l).1 : Int) == 0) = false := by simp; omega
  rw [hg] at HG
  clear hI hg hm hf
  generalize hlen : l.length = len at *
  have HLEN := Lib.hid hlen
  generalize (chk l).1 = x at *
  generalize (chk l).2 = y at *
  clear hlen
  go_enter Try.func3, Try.ntmps3
  go_wp2_with fail
  refine (tlvawake_any _).mono ?_
  rintro e w1 ⟨rfl, hb1⟩
  have HB1 := Lib.hid hb1
  clear hb1
  go_wp2_with fail
  refine (HG.out _ (HI.out.below HB1.out)).mono ?_
  rintro e w2 ⟨rfl, hb2⟩
  have HB2 := Lib.hid (hbt HB1.out hb2)
  clear hb2
  go_wp2_with (at_builtin; refine wpList_copy_tlvs rfl _ _ rfl w2 rfl A cap len rfl l HLEN.out (HI.out.below HB2.out) (by omega) ?_; intro A' c' w3 hT3 hb3)
  have HB3 := Lib.hid (hbt HB2.out hb3)
  have HT3 := Lib.hid hT3
  clear hb3 hT3
  refine (HC.out _ _ _ HT3.out).mono ?_
  rintro e w4 ⟨rfl, hb4⟩
  have HB4 := Lib.hid (hbt HB3.out hb4)
  clear hb4 HT3
  go_wp2_with fail
  refine (HD.out _ (HI.out.below HB4.out)).mono ?_
  rintro e w5 ⟨rfl, rfl⟩
  go_wp2_with (at_builtin; refine wpList_copy_tlvs rfl _ _ rfl w4 rfl A cap len rfl l HLEN.out (HI.out.below HB4.out) (by omega) ?_; intro A6 c6 w6 hT6 hb6)
  have HB6 := Lib.hid (hbt HB4.out hb6)
  have HT6 := Lib.hid hT6
  clear hb6 hT6
  refine (HP.out _ _ _ HT6.out).mono ?_
  rintro e w7 ⟨rfl, hb7⟩
  have HB7 := Lib.hid (hbt HB6.out hb7)
  clear hb7
  go_wp2
  go_ret
  exact ⟨rfl, HB7.out⟩

set_option maxRecDepth 100000 in
set_option maxHeartbeats 3200000 in
theorem tlvputs_yes (A : Option Addr) (cap : Nat) (l : List Item) (w : World) (hI : Tlvs w A l) (hm : l.length ≤ maxLen) (hf : Fine l) (hg : greatB l = false) (hgood : Good l) : Calls Try.prog 3 #[.slice A l.length cap] w fun e w' => e = .returned (.bool true) ∧ Below w.heap.size w w' := by
  have HI := Lib.hid hI
  have HG := Lib.hid (fun W h => great_any A cap l W h hm)
  have hl := (not_great hg).1
  have hpl := tlvL_len l (good_small hgood)
  have HC := Lib.hid (fun A' c' W h => tlvcheck_any A' c' l W h (by omega) hf)
  have HD := Lib.hid (fun W h => tlvrefCheck_any A cap l W h (by omega) hf)
  rw [chk_ok hgood] at HC HD
  dsimp only at HC HD
  have HP := Lib.hid (fun A' c' W h => tlvput_yes A' c' l W h (by omega) hf hgood (by omega))
  have HQ := Lib.hid (fun W h => tlvrefPut_any A cap l W h (by omega) hgood (by omega))
  rw [hg] at HG
  clear hI hg hm hf hgood hpl
  generalize hlen : l.length = len at *
  have HLEN := Lib.hid hlen
  generalize (⟨(tlvL l).toArray⟩ : ByteArray) = x at *
  clear hlen
  go_enter Try.func3, Try.ntmps3
  go_wp2_with fail
  refine (tlvawake_any _).mono ?_
  rintro e w1 ⟨rfl, hb1⟩
  have HB1 := Lib.hid hb1
  clear hb1
  go_wp2_with fail
  refine (HG.out _ (HI.out.below HB1.out)).mono ?_
  rintro e w2 ⟨rfl, hb2⟩
  have HB2 := Lib.hid (hbt HB1.out hb2)
  clear hb2
  go_wp2_with (at_builtin; refine wpList_copy_tlvs rfl _ _ rfl w2 rfl A cap len rfl l HLEN.out (HI.out.below HB2.out) (by omega) ?_; intro A' c' w3 hT3 hb3)
  have HB3 := Lib.hid (hbt HB2.out hb3)
  have HT3 := Lib.hid hT3
  clear hb3 hT3
  refine (HC.out _ _ _ HT3.out).mono ?_
  rintro e w4 ⟨rfl, hb4⟩
  have HB4 := Lib.hid (hbt HB3.out hb4)
  clear hb4 HT3
  go_wp2_with fail
  refine (HD.out _ (HI.out.below HB4.out)).mono ?_
  rintro e w5 ⟨rfl, rfl⟩
  go_wp2_with (at_builtin; refine wpList_copy_tlvs rfl _ _ rfl w4 rfl A cap len rfl l HLEN.out (HI.out.below HB4.out) (by omega) ?_; intro A6 c6 w6 hT6 hb6)
  have HB6 := Lib.hid (hbt HB4.out hb6)
  have HT6 := Lib.hid hT6
  clear hb6 hT6
  refine (HP.out _ _ _ HT6.out).mono ?_
  rintro e w7 ⟨rfl, hb7⟩
  have HB7 := Lib.hid (hbt HB6.out hb7)
  clear hb7
  go_wp2_with fail
  refine (HQ.out _ (HI.out.below HB7.out)).mono ?_
  rintro e w8 ⟨rfl, hb8⟩
  have HB8 := Lib.hid (hbt HB7.out hb8)
  clear hb8
  go_wp2
  go_ret
  exact ⟨rfl, HB8.out⟩
theorem tlvPuts_walk (A : Option Addr) (cap : Nat) (l : List Item) (w : World) (hI : Tlvs w A l) (hm : l.length ≤ maxLen) (hf : Fine l) : Calls Try.prog 3 #[.slice A l.length cap] w fun e w' => e = .returned (.bool true) ∧ Below w.heap.size w w' := by
  cases hg : greatB l with
  | true => exact tlvputs_great A cap l w hI hm hg
  | false =>
    rcases chk_cases l with ⟨_, h⟩ | h
    · exact tlvputs_yes A cap l w hI hm hf hg h
    · exact tlvputs_no A cap l w hI hm hf hg h

set_option maxRecDepth 100000 in
set_option maxHeartbeats 3200000 in
theorem finds_great (A : Option Addr) (cap : Nat) (l : List Item) (t : Int) (w : World) (hI : Tlvs w A l) (hm : l.length ≤ maxLen) (hg : greatB l = true) : Calls Try.prog 7 #[.slice A l.length cap, .int .i64 t] w fun e w' => e = .returned (.bool true) ∧ Below w.heap.size w w' := by
  have HI := Lib.hid hI
  have HG := Lib.hid (fun W h => great_any A cap l W h hm)
  rw [hg] at HG
  clear hI hg hm
  generalize l.length = len at *
  go_enter Try.func7, Try.ntmps7
  go_wp2_with fail
  refine (tlvawake_any _).mono ?_
  rintro e w1 ⟨rfl, hb1⟩
  have HB1 := Lib.hid hb1
  clear hb1
  go_wp2_with fail
  refine (HG.out _ (HI.out.below HB1.out)).mono ?_
  rintro e w2 ⟨rfl, hb2⟩
  have HB2 := Lib.hid (hbt HB1.out hb2)
  clear hb2
  go_wp2_with fail
  refine (tlvawake_any _).mono ?_
  rintro e w3 ⟨rfl, hb3⟩
  have HB3 := Lib.hid (hbt HB2.out hb3)
  clear hb3
  go_wp2
  go_ret
  exact ⟨rfl, HB3.out⟩

set_option maxRecDepth 100000 in
set_option maxHeartbeats 3200000 in
theorem finds_short (A : Option Addr) (cap : Nat) (l : List Item) (t : Int) (w : World) (hI : Tlvs w A l) (hm : l.length ≤ maxLen) (hg : greatB l = false) : Calls Try.prog 7 #[.slice A l.length cap, .int .i64 t] w fun e w' => e = .returned (.bool true) ∧ Below w.heap.size w w' := by
  have HI := Lib.hid hI
  have HG := Lib.hid (fun W h => great_any A cap l W h hm)
  have hl := (not_great hg).1
  have HF := Lib.hid (fun A' c' W h => tlvfind_any A' c' l t W h (by omega))
  rw [hg] at HG
  clear hI hg hm
  generalize hlen : l.length = len at *
  have HLEN := Lib.hid hlen
  generalize hS : findS l t = x at *
  generalize hB : findB l t = y at *
  have HFS := Lib.hid hS
  have HFB := Lib.hid hB
  clear hlen hS hB
  go_enter Try.func7, Try.ntmps7
  go_wp2_with fail
  refine (tlvawake_any _).mono ?_
  rintro e w1 ⟨rfl, hb1⟩
  have HB1 := Lib.hid hb1
  clear hb1
  go_wp2_with fail
  refine (HG.out _ (HI.out.below HB1.out)).mono ?_
  rintro e w2 ⟨rfl, hb2⟩
  have HB2 := Lib.hid (hbt HB1.out hb2)
  clear hb2
  go_wp2_with (at_builtin; refine wpList_copy_tlvs rfl _ _ rfl w2 rfl A cap len rfl l HLEN.out (HI.out.below HB2.out) (by omega) ?_; intro A' c' w3 hT3 hb3)
  have HB3 := Lib.hid (hbt HB2.out hb3)
  have HT3 := Lib.hid hT3
  clear hb3 hT3
  refine (HF.out _ _ _ HT3.out).mono ?_
  rintro e w4 ⟨rfl, hb4⟩
  have HB4 := Lib.hid (hbt HB3.out hb4)
  clear hb4 HT3 HF HG
  go_wp2
  go_loopw [26] (fun i wr => ∃ k : Nat, k ≤ len ∧ i = .int .i64 (k : Int) ∧ (∀ j, j < k → (itemAt l j).1 ≠ t) ∧ Below w.heap.size w wr) (fun i _ => len - (intOf i).toNat)
  case atStart => exact ⟨0, Nat.zero_le _, rfl, fun j hj => by omega, HB4.out⟩
  case round =>
    obtain ⟨k, hk, rfl, hno, hb⟩ := hrel
    have HNO := Lib.hid hno
    have HB := Lib.hid hb
    clear hno hb
    by_cases hlt : k < len
    · obtain ⟨a, rfl, hc, hd⟩ := HI.out.below HB.out k (by have := HLEN.out; omega)
      generalize hx : itemAt l k = q at *
      have HX := Lib.hid hx
      clear hx
      obtain ⟨z, s⟩ := q
      dsimp only at hc hd
      by_cases hzt : z = t
      · subst hzt
        have hh := find_hit (by have := HLEN.out; omega) HNO.out (by rw [HX.out])
        rw [HX.out, HFS.out, HFB.out] at hh
        dsimp only at hh
        obtain ⟨rfl, rfl⟩ := hh
        go_wp2
        go_ret
        exact ⟨rfl, hbt HB.out (below_al _ _)⟩
      · have hzt' : (z == t) = false := by simpa using hzt
        go_wp2
        go_roundw
        case rel =>
          refine ⟨k + 1, by omega, by go_num, fun j hj => ?_, hbt HB.out (below_al _ _)⟩
          rcases Nat.lt_or_ge j k with h | h
          · exact HNO.out j h
          · obtain rfl : j = k := by omega
            rw [HX.out]; exact hzt
        case measure => simp [intOf]; omega
    · have hh := find_miss (l := l) (t := t) (fun j hj => HNO.out j (by have := HLEN.out; omega))
      rw [HFS.out, HFB.out] at hh
      obtain ⟨rfl, rfl⟩ := hh
      go_wp2
      go_ret
      exact ⟨rfl, HB.out⟩
theorem tlvFinds_walk (A : Option Addr) (cap : Nat) (l : List Item) (t : Int) (w : World) (hI : Tlvs w A l) (hm : l.length ≤ maxLen) (_hf : Fine l) (_h1 : -9223372036854775808 ≤ t) (_h2 : t ≤ 9223372036854775807) : Calls Try.prog 7 #[.slice A l.length cap, .int .i64 t] w fun e w' => e = .returned (.bool true) ∧ Below w.heap.size w w' := by
  cases hg : greatB l with
  | true => exact finds_great A cap l t w hI hm hg
  | false => exact finds_short A cap l t w hI hm hg

end Go.Proofs.Ytldicdjkgoncoaa
