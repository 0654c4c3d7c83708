/-
  The law StrictOne: for every schema and bytes, in every world that holds the table of kinds.
-/
import Derived.Test.YtlkpiapmdflahaaDoorStcAwk
import Derived.Test.YtlkpiapmdflahaaDoorStcLen
import Derived.Test.YtlkpiapmdflahaaDoorWirEnc
import Derived.Test.YtlkpiapmdflahaaDoorMsgChk
namespace Go.Proofs.YtlkpiapmdflahaaDoor
open Go.RowKit

set_option maxRecDepth 100000 in
set_option maxHeartbeats 3200000 in
theorem sone_long (hdec : DecSpec) (st v : Int) (A : Option Addr) (len cap : Nat) (b : ByteArray) (w : World) (hK : Kinds w) (h : 200 < len) :
    Calls Tryd.prog 5 #[.agg #[.int .i64 st, .int .i64 v, .slice A len cap], .string b] w fun e w' => e = .returned (.bool true) ∧ Below w.heap.size w w' := by
  have t : decide ((200 : Int) < (len : Int)) = true := by simp; omega
  have HB := Lib.hid (below_al w (.cells #[.int .i64 st, .int .i64 v, .slice A len cap] 24))
  have HX := Lib.hid (box_new w st v A len cap)
  have HK := Lib.hid (hK.below HB.out)
  clear h hK
  go_enter Tryd.func5, Tryd.ntmps5
  go_wp2_with fail
  generalize w.alloc (.cells #[.int .i64 st, .int .i64 v, .slice A len cap] 24) = U at *
  refine (sawake_any hdec _ HK.out).mono ?_
  rintro e w1 ⟨rfl, hb1⟩
  have HB1 := Lib.hid (hbt HB.out hb1)
  have HK1 := Lib.hid (HK.out.below hb1)
  obtain ⟨b0, b1, b2⟩ := obj_cells3 (HX.out.below hb1)
  clear hb1
  go_wp2_with fail
  refine (sawake_any hdec _ HK1.out).mono ?_
  rintro e w2 ⟨rfl, hb2⟩
  have HB2 := Lib.hid (hbt HB1.out hb2)
  clear hb2 b0 b1 b2
  go_wp2
  go_ret
  exact ⟨rfl, HB2.out⟩
set_option maxRecDepth 100000 in
set_option maxHeartbeats 3200000 in
theorem sone_text (hdec : DecSpec) (st v : Int) (A : Option Addr) (len cap : Nat) (b : ByteArray) (w : World) (hK : Kinds w) (h : ¬ 200 < len) (h2 : 3000 < b.size) :
    Calls Tryd.prog 5 #[.agg #[.int .i64 st, .int .i64 v, .slice A len cap], .string b] w fun e w' => e = .returned (.bool true) ∧ Below w.heap.size w w' := by
  have t : decide ((200 : Int) < (len : Int)) = false := by simp; omega
  have t2 : decide ((3000 : Int) < (b.size : Int)) = true := by simp; omega
  have HB := Lib.hid (below_al w (.cells #[.int .i64 st, .int .i64 v, .slice A len cap] 24))
  have HX := Lib.hid (box_new w st v A len cap)
  have HK := Lib.hid (hK.below HB.out)
  clear h h2 hK
  go_enter Tryd.func5, Tryd.ntmps5
  go_wp2_with fail
  generalize w.alloc (.cells #[.int .i64 st, .int .i64 v, .slice A len cap] 24) = U at *
  refine (sawake_any hdec _ HK.out).mono ?_
  rintro e w1 ⟨rfl, hb1⟩
  have HB1 := Lib.hid (hbt HB.out hb1)
  have HK1 := Lib.hid (HK.out.below hb1)
  obtain ⟨b0, b1, b2⟩ := obj_cells3 (HX.out.below hb1)
  clear hb1
  go_wp2_with fail
  refine (sawake_any hdec _ HK1.out).mono ?_
  rintro e w2 ⟨rfl, hb2⟩
  have HB2 := Lib.hid (hbt HB1.out hb2)
  clear hb2 b0 b1 b2
  go_wp2
  go_ret
  exact ⟨rfl, HB2.out⟩
set_option maxRecDepth 100000 in
set_option maxHeartbeats 12800000 in
theorem sone_main (hdec : DecSpec) (st v : Int) (A : Option Addr) (cap : Nat) (sl : List Sp) (b : ByteArray) (w : World) (hK : Kinds w) (hI : Spl w A sl) (h : ¬ 200 < sl.length) (h2 : ¬ 3000 < b.size) :
    Calls Tryd.prog 5 #[.agg #[.int .i64 st, .int .i64 v, .slice A sl.length cap], .string b] w fun e w' => e = .returned (.bool true) ∧ Below w.heap.size w w' := by
  have t : decide ((200 : Int) < (sl.length : Int)) = false := by simp; omega
  have t2 : decide ((3000 : Int) < (b.size : Int)) = false := by simp; omega
  have hn : sl.length ≤ 1000 := by omega
  have hbz : b.size ≤ 1000000 := by omega
  have HB := Lib.hid (below_al w (.cells #[.int .i64 st, .int .i64 v, .slice A sl.length cap] 24))
  have HX := Lib.hid (box_new w st v A sl.length cap)
  have HK := Lib.hid (hK.below HB.out)
  have HI := Lib.hid (hI.below HB.out)
  have HD := Lib.hid (fun W h0 h1 => hdec st v A cap sl b W h0 h1 hn hbz)
  have HLN := Lib.hid (decN_len st v sl b)
  have HG : Hid ((decN st v sl b).2.2.1 = 0 → (decN st v sl b).2.2.2 = 0 ∧ (∀ A' c W, Kinds W → Spl W A sl → Tlvs W A' (decN st v sl b).2.1 → Calls Tryd.prog 14 #[.agg #[.int .i64 st, .int .i64 v, .slice A sl.length cap], .agg #[.string (decN st v sl b).1, .slice A' (decN st v sl b).2.1.length c]] W fun e w' => e = .returned (.tuple #[.string b, .agg #[.int .i64 0, .int .i64 0]]) ∧ Below W.heap.size W w') ∧
      (∀ A' c W, Kinds W → Spl W A sl → Tlvs W A' (decN st v sl b).2.1 → Calls Tryd.prog 15 #[.agg #[.int .i64 st, .int .i64 v, .slice A sl.length cap], .agg #[.string (decN st v sl b).1, .slice A' (decN st v sl b).2.1.length c]] W fun e w' => e = .returned (.agg #[.int .i64 0, .int .i64 0]) ∧ Below W.heap.size W w')) := fun hz => by
    have hlen : (decN st v sl b).2.1.length ≤ 1000 := by have := HLN.out; omega
    have hsv := decN_short_vals st v sl b
    rcases decN_told st v sl b with ⟨_, _, h3, _⟩ | ⟨_, h3, h4, _⟩
    · exact absurd hz h3
    · obtain ⟨h5, h6⟩ := h4 hz
      refine ⟨by rw [h5], fun A' c W k1 k2 k3 => ?_, fun A' c W k1 k2 k3 => ?_⟩
      · have := wenc_any st v A cap sl (decN st v sl b).1 A' c (decN st v sl b).2.1 W k1 k2 k3 hn hlen hsv
        rw [h6, h3] at this
        exact this
      · have := mcheck_any st v A cap sl (decN st v sl b).1 A' c (decN st v sl b).2.1 W k1 k2 k3 hn hlen hsv
        rw [h3] at this
        exact this
  clear h h2 hK hI hn hbz HLN
  generalize decN st v sl b = R at *
  obtain ⟨Rm, Rl, z, z'⟩ := R
  unfold DecTo at HD
  dsimp only at HD HG
  generalize Rl.length = rn at *
  generalize sl.length = len at *
  go_enter Tryd.func5, Tryd.ntmps5
  go_wp2_with fail
  generalize w.alloc (.cells #[.int .i64 st, .int .i64 v, .slice A len cap] 24) = U at *
  refine (sawake_any hdec _ HK.out).mono ?_
  rintro e w1 ⟨rfl, hb1⟩
  have HB1 := Lib.hid (hbt HB.out hb1)
  have HK1 := Lib.hid (HK.out.below hb1)
  have HI1 := Lib.hid (HI.out.below hb1)
  have HX1 := Lib.hid (HX.out.below hb1)
  obtain ⟨b0, b1, b2⟩ := obj_cells3 HX1.out
  clear hb1 HB HK HI HX
  go_wp2_with fail
  refine (HD.out _ HK1.out HI1.out).mono ?_
  rintro e w2 ⟨A2, c2, rfl, ht2, hb2⟩
  have hal := hbt (hbt hb2 (below_al w2 (.cells #[.string Rm, .slice A2 rn c2] 28))) (below_al _ (.cells #[.int .i64 z, .int .i64 z'] 31))
  have HB2 := Lib.hid (hbt HB1.out hal)
  have HK2 := Lib.hid (HK1.out.below hal)
  have HI2 := Lib.hid (HI1.out.below hal)
  have HX2 := Lib.hid (HX1.out.below hal)
  have HM2 : Hid (MBox ((w2.alloc (.cells #[.string Rm, .slice A2 rn c2] 28)).alloc (.cells #[.int .i64 z, .int .i64 z'] 31)) w2.heap.size Rm A2 rn c2) := (mbox_new _ _ _ _ _).below (below_al _ _)
  have HF2 : Hid (((w2.alloc (.cells #[.string Rm, .slice A2 rn c2] 28)).alloc (.cells #[.int .i64 z, .int .i64 z'] 31)).heap[w2.heap.size + 1]? = some (.cells #[.int .i64 z, .int .i64 z'] 31)) := heap_al _ _ _ (by simp)
  have HT2 := Lib.hid (ht2.below (hbt (below_al w2 (.cells #[.string Rm, .slice A2 rn c2] 28)) (below_al _ (.cells #[.int .i64 z, .int .i64 z'] 31))))
  clear b0 b1 b2
  obtain ⟨b0, b1, b2⟩ := obj_cells3 (HX1.out.below hb2)
  have hz := obj_lt (HX1.out.below hb2)
  have hz' : w.heap.size < w2.heap.size + 1 := by omega
  clear hal ht2 hb2 HB1 HK1 HI1 HX1
  by_cases hz0 : z = 0
  · subst hz0
    obtain ⟨rfl, he, hk⟩ := HG.out rfl
    have HE := Lib.hid he
    have HC := Lib.hid hk
    clear he hk HG
    go_wp2_with fail
    generalize (w2.alloc (.cells #[.string Rm, .slice A2 rn c2] 28)).alloc (.cells #[.int .i64 0, .int .i64 0] 31) = W3 at *
    generalize w2.heap.size + 1 = gf at *
    generalize w2.heap.size = gm at *
    clear b0 b1 b2 hz hz'
    refine (HE.out A2 c2 _ HK2.out HI2.out HT2.out).mono ?_
    rintro e w4 ⟨rfl, hb4⟩
    have hal := hbt hb4 (below_al w4 (.cells #[.int .i64 0, .int .i64 0] 31))
    have HB4 := Lib.hid (hbt HB2.out hal)
    have HK4 := Lib.hid (HK2.out.below hal)
    have HI4 := Lib.hid (HI2.out.below hal)
    have HT4 := Lib.hid (HT2.out.below hal)
    have HF4 := Lib.hid (heap_alloc_new w4 (.cells #[.int .i64 0, .int .i64 0] 31))
    obtain ⟨b0, b1, b2⟩ := obj_cells3 (HX2.out.below hb4)
    have hz := obj_lt (HX2.out.below hb4)
    obtain ⟨b3, b4, _, _⟩ := obj_cells (HM2.out.below hb4)
    have hz' := obj_lt (HM2.out.below hb4)
    clear hal hb4 HB2 HK2 HI2 HX2 HM2 HF2 HT2
    go_wp2_with fail
    generalize w4.alloc (.cells #[.int .i64 0, .int .i64 0] 31) = W5 at *
    generalize w4.heap.size = gg at *
    clear b0 b1 b2 b3 b4 hz hz'
    refine (HC.out A2 c2 _ HK4.out HI4.out HT4.out).mono ?_
    rintro e w6 ⟨rfl, hb6⟩
    have HB6 := Lib.hid (hbt HB4.out hb6)
    obtain ⟨b0, b1, _, _⟩ := obj_cells (obj_below HF4.out hb6)
    clear hb6
    go_wp2
    go_ret
    exact ⟨rfl, HB6.out⟩
  · have tz : (z == 0) = false := by simpa using hz0
    clear HG hz0
    go_wp2
    go_ret
    exact ⟨rfl, HB2.out⟩
theorem sone_walk (hdec : DecSpec) (st v : Int) (A : Option Addr) (cap : Nat) (sl : List Sp) (b : ByteArray) (w : World) (hK : Kinds w) (hI : Spl w A sl) :
    Calls Tryd.prog 5 #[.agg #[.int .i64 st, .int .i64 v, .slice A sl.length cap], .string b] w fun e w' => e = .returned (.bool true) ∧ Below w.heap.size w w' := by
  by_cases h : 200 < sl.length
  · exact sone_long hdec st v A _ cap b w hK h
  · by_cases h2 : 3000 < b.size
    · exact sone_text hdec st v A _ cap b w hK h h2
    · exact sone_main hdec st v A cap sl b w hK hI h h2

end Go.Proofs.YtlkpiapmdflahaaDoor
