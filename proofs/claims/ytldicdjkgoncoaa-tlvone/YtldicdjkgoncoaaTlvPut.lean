/-
  What Put answers: for every list whose bytes are at most 5,000,000, in every world.
-/
import Derived.Test.YtldicdjkgoncoaaTlvCheck
import Derived.Test.YtldicdjkgoncoaaBld
import Derived.Test.YtldicdjkgoncoaaTagPut
import Derived.Test.YtldicdjkgoncoaaBerPut
namespace Go.Proofs.Ytldicdjkgoncoaa
open Go.RowKit Go.Maps

set_option maxHeartbeats 1600000 in
theorem tlvput_no (A : Option Addr) (cap : Nat) (l : List Item) (w : World) (hI : Tlvs w A l) (hn : l.length ≤ 5000000) (hf : Fine l) (hc : (chk l).1 ≠ 0) :
    Calls Try.prog 12 #[.slice A l.length cap] w fun e w' => e = .returned (.tuple #[.string ⟨#[]⟩, .int .i64 ((chk l).1 : Int)]) ∧ Below w.heap.size w w' := by
  have HC := Lib.hid (tlvcheck_any A cap l w hI hn hf)
  clear hI hf
  generalize (chk l).1 = b at *
  generalize (chk l).2 = i at *
  generalize l.length = len at *
  have hb : ((b : Int) == 0) = false := by simp; omega
  go_enter Try.func12, Try.ntmps12
  go_wp2_with fail
  refine HC.out.mono ?_
  rintro e w1 ⟨rfl, hb1⟩
  go_wp2
  go_ret2
  exact ⟨rfl, hb1⟩

theorem tlvL_part (l : List Item) (k : Nat) : (tlvL (l.take k)).length ≤ (tlvL l).length := by
  have e : tlvL l = tlvL (l.take k) ++ tlvL (l.drop k) := by unfold tlvL; rw [← List.flatMap_append, List.take_append_drop]
  rw [e, List.length_append]; omega
theorem tag_nat {z : Int} (h : tagB z = true) : ∃ n : Nat, z = (n : Int) ∧ (tone n ∨ ttwo n) := by
  have h0 : 0 ≤ z := by
    by_cases g : 0 ≤ z
    · exact g
    · rw [tagB_far (Or.inl (by omega))] at h; cases h
  obtain ⟨n, rfl⟩ := Int.eq_ofNat_of_zero_le h0
  exact ⟨n, rfl, (tagB_nat n).1 h⟩

set_option maxRecDepth 100000 in
set_option maxHeartbeats 6400000 in
theorem tlvput_yes (A : Option Addr) (cap : Nat) (l : List Item) (w : World) (hI : Tlvs w A l) (hn : l.length ≤ 5000000) (hf : Fine l) (hg : Good l) (hp : (tlvL l).length ≤ 5000000) :
    Calls Try.prog 12 #[.slice A l.length cap] w fun e w' => e = .returned (.tuple #[.string ⟨(tlvL l).toArray⟩, .int .i64 0]) ∧ Below w.heap.size w w' := by
  have HC := Lib.hid (tlvcheck_any A cap l w hI hn hf)
  rw [chk_ok hg] at HC
  dsimp only at HC
  have HI := Lib.hid hI
  have HG := Lib.hid hg
  have HP := Lib.hid hp
  clear hI hf hg hp
  generalize hlen : l.length = len at *
  have HLEN := Lib.hid hlen
  clear hlen
  go_enter Try.func12, Try.ntmps12
  go_wp2_with fail
  refine HC.out.mono ?_
  rintro e w1 ⟨rfl, hb1⟩
  have HB1 := Lib.hid hb1
  clear hb1 HC
  go_wp2
  go_loopw [23] (fun i wr => ∃ k : Nat, k ≤ len ∧ i = .int .i64 (k : Int) ∧ Built wr w1.heap.size (tlvL (l.take k)) ∧ Below w.heap.size w wr) (fun i _ => len - (intOf i).toNat)
  case atStart => exact ⟨0, Nat.zero_le _, rfl, built_new w1, hbt HB1.out (below_al _ _)⟩
  case round =>
    obtain ⟨k, hk, rfl, hbu, hb⟩ := hrel
    have HU := Lib.hid hbu
    have HB := Lib.hid hb
    clear hbu hb
    by_cases hlt : k < len
    · have hkl : k < l.length := by have := HLEN.out; omega
      obtain ⟨a, rfl, hc, hd⟩ := HI.out.below HB.out k hkl
      have hgk := HG.out k hkl
      unfold badAt at hgk
      have HPS := Lib.hid (tlvL_step hkl)
      have hpl := tlvL_part l k
      have hp5 := HP.out
      generalize itemAt l k = x at *
      obtain ⟨z, s⟩ := x
      dsimp only at hc hd
      obtain ⟨g1, g2, _⟩ := bad1_zero hgk
      dsimp only at g1 g2
      obtain ⟨n, rfl, hno⟩ := tag_nat g1
      have HTP := Lib.hid (fun W => tput_yes n W hno)
      have HBP := Lib.hid (fun W => berput_yes s.size W (by omega))
      have hps := HPS.out
      unfold putI at hps
      dsimp only at hps
      rw [show ((n : Nat) : Int).toNat = n from rfl] at hps
      have l1 := tputL_length_le n
      have l2 := berL_length s.size
      have l3 := berSz_le s.size
      have m1 : (⟨(tputL n).toArray⟩ : ByteArray).data.toList = tputL n := mk_list _
      have m2 : (⟨(berL s.size).toArray⟩ : ByteArray).data.toList = berL s.size := mk_list _
      rw [← m1, ← m2] at hps
      have n1 := mk_size (tputL n)
      have n2 := mk_size (berL s.size)
      generalize (⟨(tputL n).toArray⟩ : ByteArray) = ta at *
      generalize (⟨(berL s.size).toArray⟩ : ByteArray) = tb at *
      have HQ := Lib.hid hps
      have HZ : Hid ((tlvL (l.take k)).length + ta.size + tb.size + s.size ≤ 6000000 ∧ ta.data.toList.length = ta.size ∧ tb.data.toList.length = tb.size) := ⟨by omega, by simp, by simp⟩
      have hw0 := HB1.out.size
      clear hgk hps l1 l2 l3 m1 m2 n1 n2 hno g1 HPS hpl hp5 hkl
      generalize tlvL (l.take k) = acc at *
      go_wp2_with fail
      refine (HTP.out _).mono ?_
      rintro e w2 ⟨rfl, hb2⟩
      have HU2 := Lib.hid ((HU.out.below (below_al _ _)).below hb2)
      have HB2 := Lib.hid (hbt (hbt HB.out (below_al _ (.cells #[.int .i64 (n : Int), .string s] 42))) hb2)
      have HX2 := Lib.hid (obj_below (heap_alloc_new wr (.cells #[.int .i64 (n : Int), .string s] 42)) hb2)
      obtain ⟨c0, c1, _, _⟩ := obj_cells HX2.out
      have hne : Hid (some wr.heap.size ≠ some w1.heap.size) := fun e => by have := HU.out.lt; injection e with e; omega
      clear hb2 hc hd
      go_wp2_with fail
      refine (HBP.out _).mono ?_
      rintro e w3 ⟨rfl, hb3⟩
      have HU3 := Lib.hid (HU2.out.below hb3)
      have HB3 := Lib.hid (hbt HB2.out hb3)
      have HX3 := Lib.hid (obj_below HX2.out hb3)
      clear hb3 c0 c1 HU2 HB2 HX2
      go_wp2_with fail
      refine (built_write w1.heap.size acc ta _ HU3.out (by have := HZ.out; omega)).mono ?_
      rintro e w4 ⟨rfl, hu4, hb4, hk4⟩
      have HU4 := Lib.hid hu4
      have HB4 := Lib.hid (HB3.out.trans (hb4.mono hw0))
      have HX4 := Lib.hid (hk4 _ _ HX3.out hne.out (by simp))
      clear hu4 hb4 hk4 HU3 HB3 HX3
      go_wp2_with fail
      refine (built_write w1.heap.size _ tb _ HU4.out (by have := HZ.out; rw [List.length_append]; omega)).mono ?_
      rintro e w5 ⟨rfl, hu5, hb5, hk5⟩
      have HU5 := Lib.hid hu5
      have HB5 := Lib.hid (HB4.out.trans (hb5.mono hw0))
      have HX5 := Lib.hid (hk5 _ _ HX4.out hne.out (by simp))
      clear hu5 hb5 hk5 HU4 HB4 HX4
      obtain ⟨c0, c1, _, _⟩ := obj_cells HX5.out
      go_wp2_with fail
      refine (built_write w1.heap.size _ s _ HU5.out (by have := HZ.out; rw [List.length_append, List.length_append]; omega)).mono ?_
      rintro e w6 ⟨rfl, hu6, hb6, hk6⟩
      have HU6 := Lib.hid hu6
      have HB6 := Lib.hid (HB5.out.trans (hb6.mono hw0))
      clear hu6 hb6 hk6 HU5 HB5 HX5 c0 c1
      go_wp2
      go_roundw
      case rel =>
        refine ⟨k + 1, by omega, by go_num, ?_, HB6.out⟩
        rw [HQ.out]
        have := HU6.out
        simpa [List.append_assoc] using this
      case measure => simp [intOf]; omega
    · have hkl : l.take k = l := List.take_of_length_le (by have := HLEN.out; omega)
      rw [hkl] at HU
      have hw0 := HB1.out.size
      clear hkl
      go_wp2_with fail
      refine (built_string w1.heap.size _ _ HU.out).mono ?_
      rintro e w2 ⟨rfl, hb2⟩
      have HB2 := Lib.hid (HB.out.trans (hb2.mono hw0))
      clear hb2
      go_wp2
      go_ret2
      exact ⟨rfl, HB2.out⟩

end Go.Proofs.Ytldicdjkgoncoaa
