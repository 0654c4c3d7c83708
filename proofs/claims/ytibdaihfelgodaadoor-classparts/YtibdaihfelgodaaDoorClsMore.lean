/-
  The laws ClassKeeps and ClassParts of layer 4: each returns true, for every input, in every world in which the table of kinds stands as the program's text lays it.
-/
import Derived.Test.YtibdaihfelgodaaDoorClsLaws
namespace Go.Proofs.YtibdaihfelgodaaDoor
open Go.RowKit

set_option maxHeartbeats 1000000 in
theorem ckeeps_law (a b : Int) (s : ByteArray) (w : World) (hw : Kinds w) (_ : -9223372036854775808 ≤ a) (_ : a ≤ 9223372036854775807) (_ : -9223372036854775808 ≤ b) (_ : b ≤ 9223372036854775807) (hs : s.size ≤ maxLen) :
    Calls Tryd.prog 6 #[.int .i64 a, .int .i64 b, .string s] w fun e w' => e = .returned (.bool true) ∧ Below w.heap.size w w' := by
  have HA := Lib.hid (fun w hw => first_any a s w hw hs)
  have HB := Lib.hid (fun w hw => first_any b s w hw hs)
  have HF := Lib.hid (fun w hw => wider_any a b w hw)
  have hk := fst_keeps (a := a) (b := b) (l := s.data.toList)
  unfold maxLen at hs
  generalize fst a s.data.toList = fa at HA hk
  generalize fst b s.data.toList = fb at HB hk
  generalize wid a b = f at HF hk
  have HK := Lib.hid (@hk); clear hk
  have HW := Lib.hid hw
  clear hw
  by_cases h : 2000 < s.size
  · have t1 : decide ((2000 : Int) < (s.size : Int)) = true := by simp; omega
    go_enter Tryd.func6, Tryd.ntmps6
    go_wp2_with fail
    refine (cawake_any _ HW.out).mono ?_
    rintro e w1 ⟨rfl, hb1⟩
    have HW1 := Lib.hid (HW.out.below hb1)
    go_wp2_with fail
    refine (cawake_any _ HW1.out).mono ?_
    rintro e w2 ⟨rfl, hb2⟩
    go_wp2_with fail
    go_ret
    exact ⟨rfl, hbt hb1 hb2⟩
  have t1 : decide ((2000 : Int) < (s.size : Int)) = false := by simp; omega
  cases f
  · go_enter Tryd.func6, Tryd.ntmps6
    go_wp2_with fail
    refine (cawake_any _ HW.out).mono ?_
    rintro e w1 ⟨rfl, hb1⟩
    have HW1 := Lib.hid (HW.out.below hb1)
    go_wp2_with fail
    refine (HF.out _ HW1.out).mono ?_
    rintro e w2 ⟨rfl, hb2⟩
    have HW2 := Lib.hid (HW1.out.below hb2)
    go_wp2_with fail
    refine (cawake_any _ HW2.out).mono ?_
    rintro e w3 ⟨rfl, hb3⟩
    go_wp2_with fail
    go_ret
    exact ⟨rfl, hbt (hbt hb1 hb2) hb3⟩
  by_cases hf : fb < 0
  · have e1 : fa = -1 := HK.out rfl hf
    subst e1
    have t2 : decide ((0 : Int) ≤ fb) = false := by simp; omega
    clear HK hf
    go_enter Tryd.func6, Tryd.ntmps6
    go_wp2_with fail
    refine (cawake_any _ HW.out).mono ?_
    rintro e w1 ⟨rfl, hb1⟩
    have HW1 := Lib.hid (HW.out.below hb1)
    go_wp2_with fail
    refine (HF.out _ HW1.out).mono ?_
    rintro e w2 ⟨rfl, hb2⟩
    have HW2 := Lib.hid (HW1.out.below hb2)
    go_wp2_with fail
    refine (HB.out _ HW2.out).mono ?_
    rintro e w3 ⟨rfl, hb3⟩
    have HW3 := Lib.hid (HW2.out.below hb3)
    go_wp2_with fail
    refine (HA.out _ HW3.out).mono ?_
    rintro e w4 ⟨rfl, hb4⟩
    go_wp2_with fail
    go_ret
    exact ⟨rfl, hbt (hbt (hbt hb1 hb2) hb3) hb4⟩
  · have t2 : decide ((0 : Int) ≤ fb) = true := by simp; omega
    clear HK hf
    go_enter Tryd.func6, Tryd.ntmps6
    go_wp2_with fail
    refine (cawake_any _ HW.out).mono ?_
    rintro e w1 ⟨rfl, hb1⟩
    have HW1 := Lib.hid (HW.out.below hb1)
    go_wp2_with fail
    refine (HF.out _ HW1.out).mono ?_
    rintro e w2 ⟨rfl, hb2⟩
    have HW2 := Lib.hid (HW1.out.below hb2)
    go_wp2_with fail
    refine (HB.out _ HW2.out).mono ?_
    rintro e w3 ⟨rfl, hb3⟩
    go_wp2_with fail
    go_ret
    exact ⟨rfl, hbt (hbt hb1 hb2) hb3⟩

set_option maxHeartbeats 1000000 in
theorem cparts_law (c : Int) (s t : ByteArray) (w : World) (hw : Kinds w) (_ : -9223372036854775808 ≤ c) (_ : c ≤ 9223372036854775807) (hs : s.size ≤ maxLen) (ht : t.size ≤ maxLen) :
    Calls Tryd.prog 7 #[.int .i64 c, .string s, .string t] w fun e w' => e = .returned (.bool true) ∧ Below w.heap.size w w' := by
  have HS := Lib.hid (fun w hw => first_any c s w hw hs)
  have HT := Lib.hid (fun w hw => first_any c t w hw ht)
  unfold maxLen at hs ht
  have HW := Lib.hid hw
  clear hw
  by_cases h1 : 1000 < s.size
  · have t1 : decide ((1000 : Int) < (s.size : Int)) = true := by simp; omega
    go_enter Tryd.func7, Tryd.ntmps7
    go_wp2_with fail
    refine (cawake_any _ HW.out).mono ?_
    rintro e w1 ⟨rfl, hb1⟩
    have HW1 := Lib.hid (HW.out.below hb1)
    go_wp2_with fail
    refine (cawake_any _ HW1.out).mono ?_
    rintro e w2 ⟨rfl, hb2⟩
    go_wp2_with fail
    go_ret
    exact ⟨rfl, hbt hb1 hb2⟩
  have t1 : decide ((1000 : Int) < (s.size : Int)) = false := by simp; omega
  by_cases h2 : 1000 < t.size
  · have t2 : decide ((1000 : Int) < (t.size : Int)) = true := by simp; omega
    go_enter Tryd.func7, Tryd.ntmps7
    go_wp2_with fail
    refine (cawake_any _ HW.out).mono ?_
    rintro e w1 ⟨rfl, hb1⟩
    have HW1 := Lib.hid (HW.out.below hb1)
    go_wp2_with fail
    refine (cawake_any _ HW1.out).mono ?_
    rintro e w2 ⟨rfl, hb2⟩
    go_wp2_with fail
    go_ret
    exact ⟨rfl, hbt hb1 hb2⟩
  have t2 : decide ((1000 : Int) < (t.size : Int)) = false := by simp; omega
  have hst : ∀ w, Kinds w → Calls Tryd.prog 12 #[.int .i64 c, .string (s ++ t)] w fun e w' => e = .returned (.int .i64 (fst c (s.data.toList ++ t.data.toList))) ∧ Below w.heap.size w w' := by
    intro w hw
    have h := first_any c (s ++ t) w hw (by rw [ByteArray.size_append]; unfold maxLen; omega)
    have e1 : (s ++ t).data.toList = s.data.toList ++ t.data.toList := by simp
    rw [e1] at h
    exact h
  have hadd : ∀ W : World, (Op.stringOp .add s t).run Tryd.prog W = .ok (.string (s ++ t)) W := fun W => run_string_add_sum W s t (by omega)
  have hls : s.data.toList.length = s.size := by simp
  have hlt : t.data.toList.length = t.size := by simp
  by_cases hn : fst c s.data.toList = -1
  · rw [fst_append_yes hn] at hst
    rw [hn] at HS
    have hg := fst_ge c t.data.toList
    have hl := fst_lt c t.data.toList
    rw [hlt] at hl
    rw [hls] at hst
    generalize fst c t.data.toList = m at HT hst hg hl
    by_cases hm : m = -1
    · subst hm
      rw [if_pos rfl] at hst
      have HST := Lib.hid hst
      clear hst hn hg hl hls hlt h1 h2
      go_enter Tryd.func7, Tryd.ntmps7
      go_wp2_with fail
      refine (cawake_any _ HW.out).mono ?_
      rintro e w1 ⟨rfl, hb1⟩
      have HW1 := Lib.hid (HW.out.below hb1)
      go_wp2_with fail
      refine (HS.out _ HW1.out).mono ?_
      rintro e w2 ⟨rfl, hb2⟩
      have HW2 := Lib.hid (HW1.out.below hb2)
      go_wp2_with fail
      refine (HT.out _ HW2.out).mono ?_
      rintro e w3 ⟨rfl, hb3⟩
      have HW3 := Lib.hid (HW2.out.below hb3)
      go_wp2_with fail
      refine (HST.out _ HW3.out).mono ?_
      rintro e w4 ⟨rfl, hb4⟩
      go_wp2_with fail
      go_ret
      exact ⟨rfl, hbt (hbt (hbt hb1 hb2) hb3) hb4⟩
    · rw [if_neg hm] at hst
      obtain ⟨k, rfl⟩ : ∃ k : Nat, m = (k : Int) := ⟨m.toNat, by omega⟩
      have h0 : (0 : Int) ≤ (k : Int) := by omega
      have hmin : min (k : Int) (t.size : Int) = (k : Int) := by omega
      have HST := Lib.hid hst
      have hs1 : s.size ≤ 1000 := by omega
      have hk1 : k < 1000 := by omega
      clear hst hn hg hls hlt h1 h2 hm
      go_enter Tryd.func7, Tryd.ntmps7
      go_wp2_with fail
      refine (cawake_any _ HW.out).mono ?_
      rintro e w1 ⟨rfl, hb1⟩
      have HW1 := Lib.hid (HW.out.below hb1)
      go_wp2_with fail
      refine (HS.out _ HW1.out).mono ?_
      rintro e w2 ⟨rfl, hb2⟩
      have HW2 := Lib.hid (HW1.out.below hb2)
      go_wp2_with fail
      refine (HT.out _ HW2.out).mono ?_
      rintro e w3 ⟨rfl, hb3⟩
      have HW3 := Lib.hid (HW2.out.below hb3)
      go_wp2_with fail
      refine (HST.out _ HW3.out).mono ?_
      rintro e w4 ⟨rfl, hb4⟩
      go_wp2_with fail
      go_ret
      exact ⟨by simp, hbt (hbt (hbt hb1 hb2) hb3) hb4⟩
  · rw [fst_append_no hn] at hst
    have hg := fst_ge c s.data.toList
    generalize fst c t.data.toList = m at HT
    generalize fst c s.data.toList = n at HS hst hg hn
    obtain ⟨k, rfl⟩ : ∃ k : Nat, n = (k : Int) := ⟨n.toNat, by omega⟩
    have t3 : decide ((k : Int) < 0) = false := by simp
    have HST := Lib.hid hst
    clear hst hn hg hls hlt h1 h2
    go_enter Tryd.func7, Tryd.ntmps7
    go_wp2_with fail
    refine (cawake_any _ HW.out).mono ?_
    rintro e w1 ⟨rfl, hb1⟩
    have HW1 := Lib.hid (HW.out.below hb1)
    go_wp2_with fail
    refine (HS.out _ HW1.out).mono ?_
    rintro e w2 ⟨rfl, hb2⟩
    have HW2 := Lib.hid (HW1.out.below hb2)
    go_wp2_with fail
    refine (HT.out _ HW2.out).mono ?_
    rintro e w3 ⟨rfl, hb3⟩
    have HW3 := Lib.hid (HW2.out.below hb3)
    go_wp2_with fail
    refine (HST.out _ HW3.out).mono ?_
    rintro e w4 ⟨rfl, hb4⟩
    go_wp2_with fail
    go_ret
    exact ⟨by simp, hbt (hbt (hbt hb1 hb2) hb3) hb4⟩

end Go.Proofs.YtibdaihfelgodaaDoor
