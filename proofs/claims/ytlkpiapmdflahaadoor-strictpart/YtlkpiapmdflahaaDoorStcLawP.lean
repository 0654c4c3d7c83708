/-
  The law StrictPart: for every schema and bytes, in every world that holds the table of kinds.
-/
import Derived.Test.YtlkpiapmdflahaaDoorStcAwk
import Derived.Test.YtlkpiapmdflahaaDoorStcLen
import Derived.Test.YtlkpiapmdflahaaDoorMsgChk
namespace Go.Proofs.YtlkpiapmdflahaaDoor
open Go.RowKit

set_option maxRecDepth 100000 in
set_option maxHeartbeats 3200000 in
theorem spart_long (hdec : DecSpec) (st v : Int) (A : Option Addr) (len cap : Nat) (b : ByteArray) (w : World) (hK : Kinds w) (h : 200 < len) :
    Calls Tryd.prog 6 #[.agg #[.int .i64 st, .int .i64 v, .slice A len cap], .string b] w fun e w' => e = .returned (.bool true) ∧ Below w.heap.size w w' := by
  have t : decide ((200 : Int) < (len : Int)) = true := by simp; omega
  have HB := Lib.hid (below_al w (.cells #[.int .i64 st, .int .i64 v, .slice A len cap] 24))
  have HX := Lib.hid (box_new w st v A len cap)
  have HK := Lib.hid (hK.below HB.out)
  clear h hK
  go_enter Tryd.func6, Tryd.ntmps6
  go_wp2_with fail
  generalize w.alloc (.cells #[.int .i64 st, .int .i64 v, .slice A len cap] 24) = U at *
  refine (sawake_any hdec _ HK.out).mono ?_
  rintro e w1 ⟨rfl, hb1⟩
  have HB1 := Lib.hid (hbt HB.out hb1)
  have HK1 := Lib.hid (HK.out.below hb1)
  obtain ⟨b0, b1, b2⟩ := obj_cells3 (HX.out.below hb1)
  clear hb1
  go_wp2_with fail
  refine (sawake_any hdec _ HK1.out).mono ?_
  rintro e w2 ⟨rfl, hb2⟩
  have HB2 := Lib.hid (hbt HB1.out hb2)
  clear hb2 b0 b1 b2
  go_wp2
  go_ret
  exact ⟨rfl, HB2.out⟩
set_option maxRecDepth 100000 in
set_option maxHeartbeats 3200000 in
theorem spart_text (hdec : DecSpec) (st v : Int) (A : Option Addr) (len cap : Nat) (b : ByteArray) (w : World) (hK : Kinds w) (h : ¬ 200 < len) (h2 : 3000 < b.size) :
    Calls Tryd.prog 6 #[.agg #[.int .i64 st, .int .i64 v, .slice A len cap], .string b] w fun e w' => e = .returned (.bool true) ∧ Below w.heap.size w w' := by
  have t : decide ((200 : Int) < (len : Int)) = false := by simp; omega
  have t2 : decide ((3000 : Int) < (b.size : Int)) = true := by simp; omega
  have HB := Lib.hid (below_al w (.cells #[.int .i64 st, .int .i64 v, .slice A len cap] 24))
  have HX := Lib.hid (box_new w st v A len cap)
  have HK := Lib.hid (hK.below HB.out)
  clear h h2 hK
  go_enter Tryd.func6, Tryd.ntmps6
  go_wp2_with fail
  generalize w.alloc (.cells #[.int .i64 st, .int .i64 v, .slice A len cap] 24) = U at *
  refine (sawake_any hdec _ HK.out).mono ?_
  rintro e w1 ⟨rfl, hb1⟩
  have HB1 := Lib.hid (hbt HB.out hb1)
  have HK1 := Lib.hid (HK.out.below hb1)
  obtain ⟨b0, b1, b2⟩ := obj_cells3 (HX.out.below hb1)
  clear hb1
  go_wp2_with fail
  refine (sawake_any hdec _ HK1.out).mono ?_
  rintro e w2 ⟨rfl, hb2⟩
  have HB2 := Lib.hid (hbt HB1.out hb2)
  clear hb2 b0 b1 b2
  go_wp2
  go_ret
  exact ⟨rfl, HB2.out⟩
set_option maxRecDepth 100000 in
set_option maxHeartbeats 12800000 in
theorem spart_main (hdec : DecSpec) (st v : Int) (A : Option Addr) (cap : Nat) (sl : List Sp) (b : ByteArray) (w : World) (hK : Kinds w) (hI : Spl w A sl) (h : ¬ 200 < sl.length) (h2 : ¬ 3000 < b.size) :
    Calls Tryd.prog 6 #[.agg #[.int .i64 st, .int .i64 v, .slice A sl.length cap], .string b] w fun e w' => e = .returned (.bool true) ∧ Below w.heap.size w w' := by
  have t : decide ((200 : Int) < (sl.length : Int)) = false := by simp; omega
  have t2 : decide ((3000 : Int) < (b.size : Int)) = false := by simp; omega
  have hn : sl.length ≤ 1000 := by omega
  have hbz : b.size ≤ 1000000 := by omega
  have HB := Lib.hid (below_al w (.cells #[.int .i64 st, .int .i64 v, .slice A sl.length cap] 24))
  have HX := Lib.hid (box_new w st v A sl.length cap)
  have HK := Lib.hid (hK.below HB.out)
  have HI := Lib.hid (hI.below HB.out)
  have HD := Lib.hid (fun W h0 h1 => hdec st v A cap sl b W h0 h1 hn hbz)
  have HLN := Lib.hid (decN_len st v sl b)
  have HG : Hid (((decN st v sl b).1 = ⟨#[]⟩ ∧ (decN st v sl b).2.1 = [] ∧ (decN st v sl b).2.2.1 ≠ 0 ∧ (decN st v sl b).2.2.2 ≤ 0) ∨ ((decN st v sl b).1.size = 4 ∧ (∀ A' c W, Kinds W → Spl W A sl → Tlvs W A' (decN st v sl b).2.1 → Calls Tryd.prog 15 #[.agg #[.int .i64 st, .int .i64 v, .slice A sl.length cap], .agg #[.string (decN st v sl b).1, .slice A' (decN st v sl b).2.1.length c]] W fun e w' => e = .returned (.agg #[.int .i64 0, .int .i64 0]) ∧ Below W.heap.size W w') ∧
      ((decN st v sl b).2.2.1 ≠ 0 → ∀ x ∈ (decN st v sl b).2.1, x.1 < (decN st v sl b).2.2.2))) := by
    have hlen : (decN st v sl b).2.1.length ≤ 1000 := by have := HLN.out; omega
    have hsv := decN_short_vals st v sl b
    rcases decN_told st v sl b with h3 | ⟨h2, h3, _, h5⟩
    · exact .inl h3
    · refine .inr ⟨h2, fun A' c W k1 k2 k3 => ?_, fun hz => (h5 hz).2⟩
      have := mcheck_any st v A cap sl (decN st v sl b).1 A' c (decN st v sl b).2.1 W k1 k2 k3 hn hlen hsv
      rw [h3] at this
      exact this
  clear h h2 hK hI hn hbz
  generalize decN st v sl b = R at *
  obtain ⟨Rm, Rl, z, z'⟩ := R
  unfold DecTo at HD
  dsimp only at HD HG HLN
  generalize hrn : Rl.length = rn at *
  have HRN := Lib.hid hrn
  have hrb : rn ≤ 128 := HLN.out
  clear hrn
  generalize sl.length = len at *
  go_enter Tryd.func6, Tryd.ntmps6
  go_wp2_with fail
  generalize w.alloc (.cells #[.int .i64 st, .int .i64 v, .slice A len cap] 24) = U at *
  refine (sawake_any hdec _ HK.out).mono ?_
  rintro e w1 ⟨rfl, hb1⟩
  have HB1 := Lib.hid (hbt HB.out hb1)
  have HK1 := Lib.hid (HK.out.below hb1)
  have HI1 := Lib.hid (HI.out.below hb1)
  have HX1 := Lib.hid (HX.out.below hb1)
  obtain ⟨b0, b1, b2⟩ := obj_cells3 HX1.out
  clear hb1 HB HK HI HX
  go_wp2_with fail
  refine (HD.out _ HK1.out HI1.out).mono ?_
  rintro e w2 ⟨A2, c2, rfl, ht2, hb2⟩
  have hal := hbt (hbt hb2 (below_al w2 (.cells #[.string Rm, .slice A2 rn c2] 28))) (below_al _ (.cells #[.int .i64 z, .int .i64 z'] 31))
  have HB2 := Lib.hid (hbt HB1.out hal)
  have HK2 := Lib.hid (HK1.out.below hal)
  have HI2 := Lib.hid (HI1.out.below hal)
  have HX2 := Lib.hid (HX1.out.below hal)
  have HM2 : Hid (MBox ((w2.alloc (.cells #[.string Rm, .slice A2 rn c2] 28)).alloc (.cells #[.int .i64 z, .int .i64 z'] 31)) w2.heap.size Rm A2 rn c2) := (mbox_new _ _ _ _ _).below (below_al _ _)
  have HF2 : Hid (((w2.alloc (.cells #[.string Rm, .slice A2 rn c2] 28)).alloc (.cells #[.int .i64 z, .int .i64 z'] 31)).heap[w2.heap.size + 1]? = some (.cells #[.int .i64 z, .int .i64 z'] 31)) := heap_al _ _ _ (by simp)
  have HT2 := Lib.hid (ht2.below (hbt (below_al w2 (.cells #[.string Rm, .slice A2 rn c2] 28)) (below_al _ (.cells #[.int .i64 z, .int .i64 z'] 31))))
  clear b0 b1 b2
  obtain ⟨b0, b1, b2⟩ := obj_cells3 (HX1.out.below hb2)
  have hz := obj_lt (HX1.out.below hb2)
  have hz' : w.heap.size < w2.heap.size + 1 := by omega
  clear hal ht2 hb2 HB1 HK1 HI1 HX1
  rcases HG.out with ⟨rfl, rfl, h3, h4⟩ | ⟨h2, hk, h5⟩
  · have hrn : rn = 0 := by have := HRN.out; simp at this; omega
    subst hrn
    have tz : (z != 0) = true := by simpa using h3
    have tz' : decide (z' ≤ 0) = true := by simpa using h4
    clear HG h3 h4
    go_wp2
    go_ret
    exact ⟨by simp, HB2.out⟩
  · have hme : Rm.toList.isEmpty = false := by
      rw [List.isEmpty_eq_false_iff]
      intro e
      have h6 : Rm.data.toList.length = 4 := by rw [list_size]; exact h2
      rw [← ByteArray.toList_eq, e] at h6
      exact absurd h6 (by decide)
    have HC := Lib.hid hk
    have HP := Lib.hid h5
    clear HG hk h5 h2
    go_wp2_with fail
    generalize (w2.alloc (.cells #[.string Rm, .slice A2 rn c2] 28)).alloc (.cells #[.int .i64 z, .int .i64 z'] 31) = W3 at *
    generalize w2.heap.size + 1 = gf at *
    generalize w2.heap.size = gm at *
    clear b0 b1 b2 hz hz'
    refine (HC.out A2 c2 _ HK2.out HI2.out HT2.out).mono ?_
    rintro e w4 ⟨rfl, hb4⟩
    have HB4 := Lib.hid (hbt HB2.out hb4)
    have HM4 := Lib.hid (HM2.out.below hb4)
    have HF4 := Lib.hid (obj_below HF2.out hb4)
    have HT4 := Lib.hid (HT2.out.below hb4)
    obtain ⟨b3, b4, _, _⟩ := obj_cells HM4.out
    clear hb4 HB2 HK2 HI2 HX2 HM2 HF2 HT2 hme
    go_wp2_with fail
    clear b3 b4
    go_loopw [54] (fun i wr => ∃ j : Nat, j ≤ rn ∧ i = .int .i64 (j : Int) ∧ Below w4.heap.size w4 wr) (fun i _ => rn - (intOf i).toNat)
    case atStart => exact ⟨0, Nat.zero_le _, rfl, Below.refl _ _⟩
    case round =>
      obtain ⟨j, hj, rfl, hb⟩ := hrel
      have HB := Lib.hid hb
      by_cases hlt : j < rn
      · have hjl : j < Rl.length := by have := HRN.out; omega
        obtain ⟨a, n, s, rfl, hx, c0, c1⟩ := (HT4.out.below hb).at_ hjl
        have hpr : z ≠ 0 → n < z' := fun hz => by
          have := HP.out hz (itemAt Rl j) (by rw [itemAt_get hjl]; exact List.getElem_mem hjl)
          rw [hx] at this
          exact this
        have HBA := Lib.hid (hbt hb (below_al wr (.cells #[.int .i64 n, .string s] 42)))
        obtain ⟨d0, d1, _, _⟩ := obj_cells (obj_below HF4.out hb)
        have hzf := obj_lt (obj_below HF4.out hb)
        clear hb hjl hx
        by_cases hz0 : z = 0
        · have tz : (z != 0) = false := by simpa using hz0
          clear hpr
          go_wp2
          go_roundw
          case rel => exact ⟨j + 1, by omega, by go_num, HBA.out⟩
          case measure => simp [intOf]; omega
        · have tz : (z != 0) = true := by simpa using hz0
          have hn' := hpr hz0
          have tn : decide (z' ≤ n) = false := by simpa using hn'
          have tn2 : ¬ z' ≤ n := by omega
          clear hpr
          go_wp2
          go_roundw
          case rel => exact ⟨j + 1, by omega, by go_num, HBA.out⟩
          case measure => simp [intOf]; omega
      · clear hb
        go_wp2
        go_ret
        exact ⟨rfl, hbt HB4.out HB.out⟩
theorem spart_walk (hdec : DecSpec) (st v : Int) (A : Option Addr) (cap : Nat) (sl : List Sp) (b : ByteArray) (w : World) (hK : Kinds w) (hI : Spl w A sl) :
    Calls Tryd.prog 6 #[.agg #[.int .i64 st, .int .i64 v, .slice A sl.length cap], .string b] w fun e w' => e = .returned (.bool true) ∧ Below w.heap.size w w' := by
  by_cases h : 200 < sl.length
  · exact spart_long hdec st v A _ cap b w hK h
  · by_cases h2 : 3000 < b.size
    · exact spart_text hdec st v A _ cap b w hK h h2
    · exact spart_main hdec st v A cap sl b w hK hI h h2

end Go.Proofs.YtlkpiapmdflahaaDoor
