/-
  TlvGets, TlvOne and TlvBack: for every input, in every world.
-/
import Derived.Test.YtldicdjkgoncoaaTlvAwake
import Derived.Test.YtldicdjkgoncoaaTlvRefGet
namespace Go.Proofs.Ytldicdjkgoncoaa
open Go.RowKit Go.Maps

theorem tlvF_len {s : ByteArray} : ∀ {k p : Nat} {l : List Item}, l.length ≤ p → p ≤ s.size → (tlvF s k p l).2.2.length ≤ s.size
  | 0, p, l, h1, h2 => by show l.length ≤ _; omega
  | k + 1, p, l, h1, h2 => by
    unfold tlvF
    split
    · show l.length ≤ _; omega
    · split
      · simp
      · rename_i h3
        split
        · simp
        · have he : (stepG s.data.toList p).1 = 0 := by simpa using h3
          obtain ⟨n1, n2, _⟩ := stepG_next he
          have hl : s.data.toList.length = s.size := by simp
          exact tlvF_len (by simp; omega) (by omega)
theorem tlvN_len (s : ByteArray) : (tlvN s).2.2.length ≤ s.size := tlvF_len (Nat.zero_le _) (Nat.zero_le _)
theorem fine_of_good {l : List Item} (h : Good l) : Fine l := by
  intro i hi
  obtain ⟨h1, h2, _⟩ := bad1_zero (h i hi)
  obtain ⟨n, e, hn⟩ := tag_nat h1
  have hlt : n < 65536 := by rcases hn with h | h; · have := h.1; omega
                             · exact h.2.1
  refine ⟨?_, by unfold maxLen; omega⟩
  rw [e]
  exact wf_i64 (by omega) (by omega)

set_option maxRecDepth 100000 in
set_option maxHeartbeats 3200000 in
theorem tlvgets_long (b : ByteArray) (w : World) (hm : b.size ≤ maxLen) (hl : 2000 < b.size) : Calls Try.prog 4 #[.string b] w fun e w' => e = .returned (.bool true) ∧ Below w.heap.size w w' := by
  unfold maxLen at hm
  go_enter Try.func4, Try.ntmps4
  go_wp2_with fail
  refine (tlvawake_any _).mono ?_
  rintro e w1 ⟨rfl, hb1⟩
  go_wp2_with fail
  refine (tlvawake_any _).mono ?_
  rintro e w2 ⟨rfl, hb2⟩
  go_wp2
  go_ret
  exact ⟨rfl, hbt hb1 hb2⟩
set_option maxRecDepth 100000 in
set_option maxHeartbeats 3200000 in
theorem tlvgets_short (b : ByteArray) (w : World) (hl : b.size ≤ 2000) : Calls Try.prog 4 #[.string b] w fun e w' => e = .returned (.bool true) ∧ Below w.heap.size w w' := by
  have HG := Lib.hid (fun W => tlvget_any b W (by omega))
  have HR := Lib.hid (fun W => tlvrefGet_any b W (by omega))
  have HL := Lib.hid (tlvN_len b)
  generalize (tlvN b).1 = e at *
  generalize (tlvN b).2.1 = p at *
  generalize (tlvN b).2.2 = l at *
  have HS := Lib.hid (fun W A B ca cb hA hB => same_yes A B ca cb l W hA hB (by have := HL.out; omega))
  generalize l.length = len at *
  go_enter Try.func4, Try.ntmps4
  go_wp2_with fail
  refine (tlvawake_any _).mono ?_
  rintro e w1 ⟨rfl, hb1⟩
  have HB1 := Lib.hid hb1
  clear hb1
  go_wp2_with fail
  refine (HG.out _).mono ?_
  rintro e w2 ⟨A, cap, rfl, hA, hb2⟩
  have HA := Lib.hid hA
  have HB2 := Lib.hid (hbt HB1.out hb2)
  clear hA hb2
  go_wp2_with fail
  refine (HR.out _).mono ?_
  rintro e w3 ⟨B, cap', rfl, hA, hb3⟩
  have HA3 := Lib.hid (HA.out.below hb3)
  have HC3 := Lib.hid hA
  have HB3 := Lib.hid (hbt HB2.out hb3)
  clear hA hb3
  go_wp2_with fail
  refine (HS.out _ _ _ _ _ HA3.out HC3.out).mono ?_
  rintro e w4 ⟨rfl, hb4⟩
  have HB4 := Lib.hid (hbt HB3.out hb4)
  clear hb4
  go_wp2
  go_ret
  exact ⟨rfl, HB4.out⟩
theorem tlvGets_walk (b : ByteArray) (w : World) (hm : b.size ≤ maxLen) : Calls Try.prog 4 #[.string b] w fun e w' => e = .returned (.bool true) ∧ Below w.heap.size w w' := by
  by_cases h : 2000 < b.size
  · exact tlvgets_long b w hm h
  · exact tlvgets_short b w (by omega)

set_option maxRecDepth 100000 in
set_option maxHeartbeats 3200000 in
theorem tlvone_long (b : ByteArray) (w : World) (hm : b.size ≤ maxLen) (hl : 2000 < b.size) : Calls Try.prog 6 #[.string b] w fun e w' => e = .returned (.bool true) ∧ Below w.heap.size w w' := by
  unfold maxLen at hm
  go_enter Try.func6, Try.ntmps6
  go_wp2_with fail
  refine (tlvawake_any _).mono ?_
  rintro e w1 ⟨rfl, hb1⟩
  go_wp2_with fail
  refine (tlvawake_any _).mono ?_
  rintro e w2 ⟨rfl, hb2⟩
  go_wp2
  go_ret
  exact ⟨rfl, hbt hb1 hb2⟩
set_option maxRecDepth 100000 in
set_option maxHeartbeats 3200000 in
theorem tlvone_short (b : ByteArray) (w : World) (hl : b.size ≤ 2000) : Calls Try.prog 6 #[.string b] w fun e w' => e = .returned (.bool true) ∧ Below w.heap.size w w' := by
  have HG := Lib.hid (fun W => tlvget_any b W (by omega))
  have HL := Lib.hid (tlvN_len b)
  by_cases he : (tlvN b).1 = 0
  · obtain ⟨hg, hp⟩ := tlvN_one he
    have hbl : b.data.toList.length = b.size := by simp
    have HP := Lib.hid (fun W A cap h => tlvput_yes A cap (tlvN b).2.2 W h (by have := HL.out; omega) (fine_of_good hg) hg (by rw [hp, hbl]; omega))
    have hbe : (⟨(tlvL (tlvN b).2.2).toArray⟩ : ByteArray) = b := by rw [hp]
    rw [hbe] at HP
    rw [he] at HG
    clear hg hp hbl hbe he
    generalize (tlvN b).2.1 = p at *
    generalize (tlvN b).2.2 = l at *
    generalize l.length = len at *
    go_enter Try.func6, Try.ntmps6
    go_wp2_with fail
    refine (tlvawake_any _).mono ?_
    rintro e w1 ⟨rfl, hb1⟩
    have HB1 := Lib.hid hb1
    clear hb1
    go_wp2_with fail
    refine (HG.out _).mono ?_
    rintro e w2 ⟨A, cap, rfl, hA, hb2⟩
    have HA := Lib.hid hA
    have HB2 := Lib.hid (hbt HB1.out hb2)
    clear hA hb2
    go_wp2_with fail
    refine (HP.out _ _ _ HA.out).mono ?_
    rintro e w3 ⟨rfl, hb3⟩
    have HB3 := Lib.hid (hbt HB2.out hb3)
    clear hb3
    go_wp2
    go_ret
    exact ⟨rfl, HB3.out⟩
  · rw [tlvN_none he] at HG
    have he' : (((tlvN b).1 : Int) == 0) = false := by simp; omega
    dsimp only [List.length_nil] at HG
    clear HL
    generalize (tlvN b).1 = x at *
    generalize (tlvN b).2.1 = p at *
    go_enter Try.func6, Try.ntmps6
    go_wp2_with fail
    refine (tlvawake_any _).mono ?_
    rintro e w1 ⟨rfl, hb1⟩
    have HB1 := Lib.hid hb1
    clear hb1
    go_wp2_with fail
    refine (HG.out _).mono ?_
    rintro e w2 ⟨A, cap, rfl, _, hb2⟩
    have HB2 := Lib.hid (hbt HB1.out hb2)
    clear hb2
    go_wp2
    go_ret
    exact ⟨rfl, HB2.out⟩
theorem tlvOne_walk (b : ByteArray) (w : World) (hm : b.size ≤ maxLen) : Calls Try.prog 6 #[.string b] w fun e w' => e = .returned (.bool true) ∧ Below w.heap.size w w' := by
  by_cases h : 2000 < b.size
  · exact tlvone_long b w hm h
  · exact tlvone_short b w (by omega)

set_option maxRecDepth 100000 in
set_option maxHeartbeats 3200000 in
theorem tlvback_great (A : Option Addr) (cap : Nat) (l : List Item) (w : World) (hI : Tlvs w A l) (hm : l.length ≤ maxLen) (hg : greatB l = true) : Calls Try.prog 5 #[.slice A l.length cap] w fun e w' => e = .returned (.bool true) ∧ Below w.heap.size w w' := by
  have HI := Lib.hid hI
  have HG := Lib.hid (fun W h => great_any A cap l W h hm)
  rw [hg] at HG
  clear hI hg hm
  generalize l.length = len at *
  go_enter Try.func5, Try.ntmps5
  go_wp2_with fail
  refine (tlvawake_any _).mono ?_
  rintro e w1 ⟨rfl, hb1⟩
  have HB1 := Lib.hid hb1
  clear hb1
  go_wp2_with fail
  refine (HG.out _ (HI.out.below HB1.out)).mono ?_
  rintro e w2 ⟨rfl, hb2⟩
  have HB2 := Lib.hid (hbt HB1.out hb2)
  clear hb2
  go_wp2_with fail
  refine (tlvawake_any _).mono ?_
  rintro e w3 ⟨rfl, hb3⟩
  have HB3 := Lib.hid (hbt HB2.out hb3)
  clear hb3
  go_wp2
  go_ret
  exact ⟨rfl, HB3.out⟩

set_option maxRecDepth 100000 in
set_option maxHeartbeats 3200000 in
theorem tlvback_no (A : Option Addr) (cap : Nat) (l : List Item) (w : World) (hI : Tlvs w A l) (hm : l.length ≤ maxLen) (hf : Fine l) (hg : greatB l = false) (hc : (chk l).1 ≠ 0) : Calls Try.prog 5 #[.slice A l.length cap] w fun e w' => e = .returned (.bool true) ∧ Below w.heap.size w w' := by
  have HI := Lib.hid hI
  have HG := Lib.hid (fun W h => great_any A cap l W h hm)
  have hl := (not_great hg).1
  have HP := Lib.hid (fun A' c' W h => tlvput_no A' c' l W h (by omega) hf hc)
  have hc' : (((chk l).1 : Int) == 0) = false := by simp; omega
  rw [hg] at HG
  clear hI hg hm hf hc
  generalize hlen : l.length = len at *
  have HLEN := Lib.hid hlen
  generalize (chk l).1 = x at *
  clear hlen
  go_enter Try.func5, Try.ntmps5
  go_wp2_with fail
  refine (tlvawake_any _).mono ?_
  rintro e w1 ⟨rfl, hb1⟩
  have HB1 := Lib.hid hb1
  clear hb1
  go_wp2_with fail
  refine (HG.out _ (HI.out.below HB1.out)).mono ?_
  rintro e w2 ⟨rfl, hb2⟩
  have HB2 := Lib.hid (hbt HB1.out hb2)
  clear hb2
  go_wp2_with (at_builtin; refine wpList_copy_tlvs rfl _ _ rfl w2 rfl A cap len rfl l HLEN.out (HI.out.below HB2.out) (by omega) ?_; intro A' c' w3 hT3 hb3)
  have HB3 := Lib.hid (hbt HB2.out hb3)
  have HT3 := Lib.hid hT3
  clear hb3 hT3
  refine (HP.out _ _ _ HT3.out).mono ?_
  rintro e w4 ⟨rfl, hb4⟩
  have HB4 := Lib.hid (hbt HB3.out hb4)
  clear hb4
  go_wp2
  go_ret
  exact ⟨rfl, HB4.out⟩

set_option maxRecDepth 100000 in
set_option maxHeartbeats 3200000 in
theorem tlvback_yes (A : Option Addr) (cap : Nat) (l : List Item) (w : World) (hI : Tlvs w A l) (hm : l.length ≤ maxLen) (hf : Fine l) (hg : greatB l = false) (hgood : Good l) : Calls Try.prog 5 #[.slice A l.length cap] w fun e w' => e = .returned (.bool true) ∧ Below w.heap.size w w' := by
  have HI := Lib.hid hI
  have HG := Lib.hid (fun W h => great_any A cap l W h hm)
  have hl := (not_great hg).1
  have hpl := tlvL_len l (good_small hgood)
  have HP := Lib.hid (fun A' c' W h => tlvput_yes A' c' l W h (by omega) hf hgood (by omega))
  have HE := Lib.hid (fun W => tlvget_any ⟨(tlvL l).toArray⟩ W (by rw [mk_size]; omega))
  rw [tlvN_back hgood (mk_list _)] at HE
  dsimp only at HE
  have HS := Lib.hid (fun W A B ca cb hA hB => same_yes A B ca cb l W hA hB (by omega))
  rw [hg] at HG
  clear hI hg hm hf hgood hpl
  generalize hlen : l.length = len at *
  have HLEN := Lib.hid hlen
  generalize (⟨(tlvL l).toArray⟩ : ByteArray) = x at *
  clear hlen
  go_enter Try.func5, Try.ntmps5
  go_wp2_with fail
  refine (tlvawake_any _).mono ?_
  rintro e w1 ⟨rfl, hb1⟩
  have HB1 := Lib.hid hb1
  clear hb1
  go_wp2_with fail
  refine (HG.out _ (HI.out.below HB1.out)).mono ?_
  rintro e w2 ⟨rfl, hb2⟩
  have HB2 := Lib.hid (hbt HB1.out hb2)
  clear hb2
  go_wp2_with (at_builtin; refine wpList_copy_tlvs rfl _ _ rfl w2 rfl A cap len rfl l HLEN.out (HI.out.below HB2.out) (by omega) ?_; intro A' c' w3 hT3 hb3)
  have HB3 := Lib.hid (hbt HB2.out hb3)
  have HT3 := Lib.hid hT3
  clear hb3 hT3
  refine (HP.out _ _ _ HT3.out).mono ?_
  rintro e w4 ⟨rfl, hb4⟩
  have HB4 := Lib.hid (hbt HB3.out hb4)
  clear hb4
  go_wp2_with fail
  refine (HE.out _).mono ?_
  rintro e w5 ⟨B, cb, rfl, hT5, hb5⟩
  have HB5 := Lib.hid (hbt HB4.out hb5)
  have HT5 := Lib.hid hT5
  clear hb5 hT5
  go_wp2_with fail
  refine (HS.out _ _ _ _ _ (HI.out.below HB5.out) HT5.out).mono ?_
  rintro e w6 ⟨rfl, hb6⟩
  have HB6 := Lib.hid (hbt HB5.out hb6)
  clear hb6
  go_wp2
  go_ret
  exact ⟨rfl, HB6.out⟩
theorem tlvBack_walk (A : Option Addr) (cap : Nat) (l : List Item) (w : World) (hI : Tlvs w A l) (hm : l.length ≤ maxLen) (hf : Fine l) : Calls Try.prog 5 #[.slice A l.length cap] w fun e w' => e = .returned (.bool true) ∧ Below w.heap.size w w' := by
  cases hg : greatB l with
  | true => exact tlvback_great A cap l w hI hm hg
  | false =>
    rcases chk_cases l with ⟨_, h⟩ | h
    · exact tlvback_yes A cap l w hI hm hf hg h
    · exact tlvback_no A cap l w hI hm hf hg h

end Go.Proofs.Ytldicdjkgoncoaa
