/-
  The law StrictDecodes: for every schema and bytes, in every world that holds the table of kinds.
-/
import Derived.Test.YtlkpiapmdflahaaDoorStcAwk
import Derived.Test.YtlkpiapmdflahaaDoorStcLen
namespace Go.Proofs.YtlkpiapmdflahaaDoor
open Go.RowKit

set_option maxRecDepth 100000 in
set_option maxHeartbeats 3200000 in
theorem sdecodes_long (hdec : DecSpec) (st v : Int) (A : Option Addr) (len cap : Nat) (b : ByteArray) (w : World) (hK : Kinds w) (h : 200 < len) :
    Calls Tryd.prog 3 #[.agg #[.int .i64 st, .int .i64 v, .slice A len cap], .string b] w fun e w' => e = .returned (.bool true) ∧ Below w.heap.size w w' := by
  have t : decide ((200 : Int) < (len : Int)) = true := by simp; omega
  have HB := Lib.hid (below_al w (.cells #[.int .i64 st, .int .i64 v, .slice A len cap] 24))
  have HX := Lib.hid (box_new w st v A len cap)
  have HK := Lib.hid (hK.below HB.out)
  clear h hK
  go_enter Tryd.func3, Tryd.ntmps3
  go_wp2_with fail
  generalize w.alloc (.cells #[.int .i64 st, .int .i64 v, .slice A len cap] 24) = U at *
  refine (sawake_any hdec _ HK.out).mono ?_
  rintro e w1 ⟨rfl, hb1⟩
  have HB1 := Lib.hid (hbt HB.out hb1)
  have HK1 := Lib.hid (HK.out.below hb1)
  obtain ⟨b0, b1, b2⟩ := obj_cells3 (HX.out.below hb1)
  clear hb1
  go_wp2_with fail
  refine (sawake_any hdec _ HK1.out).mono ?_
  rintro e w2 ⟨rfl, hb2⟩
  have HB2 := Lib.hid (hbt HB1.out hb2)
  clear hb2 b0 b1 b2
  go_wp2
  go_ret
  exact ⟨rfl, HB2.out⟩
set_option maxRecDepth 100000 in
set_option maxHeartbeats 3200000 in
theorem sdecodes_text (hdec : DecSpec) (st v : Int) (A : Option Addr) (len cap : Nat) (b : ByteArray) (w : World) (hK : Kinds w) (h : ¬ 200 < len) (h2 : 3000 < b.size) :
    Calls Tryd.prog 3 #[.agg #[.int .i64 st, .int .i64 v, .slice A len cap], .string b] w fun e w' => e = .returned (.bool true) ∧ Below w.heap.size w w' := by
  have t : decide ((200 : Int) < (len : Int)) = false := by simp; omega
  have t2 : decide ((3000 : Int) < (b.size : Int)) = true := by simp; omega
  have HB := Lib.hid (below_al w (.cells #[.int .i64 st, .int .i64 v, .slice A len cap] 24))
  have HX := Lib.hid (box_new w st v A len cap)
  have HK := Lib.hid (hK.below HB.out)
  clear h h2 hK
  go_enter Tryd.func3, Tryd.ntmps3
  go_wp2_with fail
  generalize w.alloc (.cells #[.int .i64 st, .int .i64 v, .slice A len cap] 24) = U at *
  refine (sawake_any hdec _ HK.out).mono ?_
  rintro e w1 ⟨rfl, hb1⟩
  have HB1 := Lib.hid (hbt HB.out hb1)
  have HK1 := Lib.hid (HK.out.below hb1)
  obtain ⟨b0, b1, b2⟩ := obj_cells3 (HX.out.below hb1)
  clear hb1
  go_wp2_with fail
  refine (sawake_any hdec _ HK1.out).mono ?_
  rintro e w2 ⟨rfl, hb2⟩
  have HB2 := Lib.hid (hbt HB1.out hb2)
  clear hb2 b0 b1 b2
  go_wp2
  go_ret
  exact ⟨rfl, HB2.out⟩
set_option maxRecDepth 100000 in
set_option maxHeartbeats 12800000 in
theorem sdecodes_main (hdec : DecSpec) (st v : Int) (A : Option Addr) (cap : Nat) (sl : List Sp) (b : ByteArray) (w : World) (hK : Kinds w) (hI : Spl w A sl) (h : ¬ 200 < sl.length) (h2 : ¬ 3000 < b.size) :
    Calls Tryd.prog 3 #[.agg #[.int .i64 st, .int .i64 v, .slice A sl.length cap], .string b] w fun e w' => e = .returned (.bool true) ∧ Below w.heap.size w w' := by
  have t : decide ((200 : Int) < (sl.length : Int)) = false := by simp; omega
  have t2 : decide ((3000 : Int) < (b.size : Int)) = false := by simp; omega
  have hn : sl.length ≤ 1000 := by omega
  have hbz : b.size ≤ 1000000 := by omega
  have HB := Lib.hid (below_al w (.cells #[.int .i64 st, .int .i64 v, .slice A sl.length cap] 24))
  have HX := Lib.hid (box_new w st v A sl.length cap)
  have HK := Lib.hid (hK.below HB.out)
  have HI := Lib.hid (hI.below HB.out)
  have HD := Lib.hid (fun W h0 h1 => hdec st v A cap sl b W h0 h1 hn hbz)
  have HLN := Lib.hid (decN_len st v sl b)
  have HR := Lib.hid (fun W h1 => sref_any st v A cap sl b W h1 hn hbz)
  have HGS : Hid (w.heap.size ≤ w.heap.size) := Nat.le_refl _
  clear h h2 hK hI hn hbz
  generalize decN st v sl b = R at *
  obtain ⟨Rm, Rl, z, z'⟩ := R
  unfold DecTo at HD HR
  dsimp only at HD HR HLN
  have HS : Hid (∀ A c B d W, Tlvs W A Rl → Tlvs W B Rl → Calls Tryd.prog 12 #[.agg #[.string Rm, .slice A Rl.length c], .agg #[.string Rm, .slice B Rl.length d]] W fun e w' => e = .returned (.bool true) ∧ Below W.heap.size W w') := fun A c B d W h1 h2 => by
    have := mrsame_any Rm A c Rl Rm B d Rl W h1 h2 (by have := HLN.out; omega)
    rw [sameM_refl] at this
    exact this
  clear HLN
  generalize Rl.length = rn at *
  generalize sl.length = len at *
  go_enter Tryd.func3, Tryd.ntmps3
  go_wp2_with fail
  generalize w.alloc (.cells #[.int .i64 st, .int .i64 v, .slice A len cap] 24) = U at *
  refine (sawake_any hdec _ HK.out).mono ?_
  rintro e w1 ⟨rfl, hb1⟩
  have HB1 := Lib.hid (hbt HB.out hb1)
  have HK1 := Lib.hid (HK.out.below hb1)
  have HI1 := Lib.hid (HI.out.below hb1)
  have HX1 := Lib.hid (HX.out.below hb1)
  obtain ⟨b0, b1, b2⟩ := obj_cells3 HX1.out
  clear hb1 HB HK HI HX
  go_wp2_with fail
  refine (HD.out _ HK1.out HI1.out).mono ?_
  rintro e w2 ⟨A2, c2, rfl, ht2, hb2⟩
  have hal := hbt (hbt hb2 (below_al w2 (.cells #[.string Rm, .slice A2 rn c2] 28))) (below_al _ (.cells #[.int .i64 z, .int .i64 z'] 31))
  have HB2 := Lib.hid (hbt HB1.out hal)
  have HI2 := Lib.hid (HI1.out.below hal)
  have HX2 := Lib.hid (HX1.out.below hal)
  have HM2 : Hid (MBox ((w2.alloc (.cells #[.string Rm, .slice A2 rn c2] 28)).alloc (.cells #[.int .i64 z, .int .i64 z'] 31)) w2.heap.size Rm A2 rn c2) := (mbox_new _ _ _ _ _).below (below_al _ _)
  have HF2 : Hid (((w2.alloc (.cells #[.string Rm, .slice A2 rn c2] 28)).alloc (.cells #[.int .i64 z, .int .i64 z'] 31)).heap[w2.heap.size + 1]? = some (.cells #[.int .i64 z, .int .i64 z'] 31)) := heap_al _ _ _ (by simp)
  have HT2 := Lib.hid (ht2.below (hbt (below_al w2 (.cells #[.string Rm, .slice A2 rn c2] 28)) (below_al _ (.cells #[.int .i64 z, .int .i64 z'] 31))))
  clear b0 b1 b2
  obtain ⟨b0, b1, b2⟩ := obj_cells3 (HX1.out.below hb2)
  have hz := obj_lt (HX1.out.below hb2)
  have hz' : w.heap.size < w2.heap.size + 1 := by omega
  clear hal ht2 hb2 HB1 HK1 HI1 HX1
  go_wp2_with fail
  generalize (w2.alloc (.cells #[.string Rm, .slice A2 rn c2] 28)).alloc (.cells #[.int .i64 z, .int .i64 z'] 31) = W3 at *
  generalize w2.heap.size + 1 = gf at *
  generalize w2.heap.size = gm at *
  clear b0 b1 b2 hz hz'
  refine (HR.out _ HI2.out).mono ?_
  rintro e w4 ⟨A4, c4, rfl, ht4, hb4⟩
  have hal := hbt (hbt hb4 (below_al w4 (.cells #[.string Rm, .slice A4 rn c4] 28))) (below_al _ (.cells #[.int .i64 z, .int .i64 z'] 31))
  have HB4 := Lib.hid (hbt HB2.out hal)
  have HM3 := Lib.hid (HM2.out.below hal)
  have HF3 := Lib.hid (obj_below HF2.out hal)
  have HT3 := Lib.hid (HT2.out.below hal)
  have HM4 : Hid (MBox ((w4.alloc (.cells #[.string Rm, .slice A4 rn c4] 28)).alloc (.cells #[.int .i64 z, .int .i64 z'] 31)) w4.heap.size Rm A4 rn c4) := (mbox_new _ _ _ _ _).below (below_al _ _)
  have HF4 : Hid (((w4.alloc (.cells #[.string Rm, .slice A4 rn c4] 28)).alloc (.cells #[.int .i64 z, .int .i64 z'] 31)).heap[w4.heap.size + 1]? = some (.cells #[.int .i64 z, .int .i64 z'] 31)) := heap_al _ _ _ (by simp)
  have HT4 := Lib.hid (ht4.below (hbt (below_al w4 (.cells #[.string Rm, .slice A4 rn c4] 28)) (below_al _ (.cells #[.int .i64 z, .int .i64 z'] 31))))
  obtain ⟨b0, b1, _, _⟩ := obj_cells (HM2.out.below hb4)
  have hz := obj_lt (HM2.out.below hb4)
  have hz' : gm < w4.heap.size + 1 := by omega
  clear hal ht4 hb4 HB2 HI2 HX2 HM2 HF2 HT2
  go_wp2_with fail
  generalize (w4.alloc (.cells #[.string Rm, .slice A4 rn c4] 28)).alloc (.cells #[.int .i64 z, .int .i64 z'] 31) = W5 at *
  generalize w4.heap.size + 1 = gf4 at *
  generalize w4.heap.size = gm4 at *
  clear b0 b1 hz hz'
  refine (HS.out _ _ _ _ _ HT3.out HT4.out).mono ?_
  rintro e w6 ⟨rfl, hb6⟩
  have HB6 := Lib.hid (hbt HB4.out hb6)
  obtain ⟨b0, b1, _, _⟩ := obj_cells (obj_below HF3.out hb6)
  obtain ⟨b2, b3, _, _⟩ := obj_cells (obj_below HF4.out hb6)
  clear hb6
  go_wp2
  go_ret
  exact ⟨by simp, HB6.out⟩
theorem sdecodes_walk (hdec : DecSpec) (st v : Int) (A : Option Addr) (cap : Nat) (sl : List Sp) (b : ByteArray) (w : World) (hK : Kinds w) (hI : Spl w A sl) :
    Calls Tryd.prog 3 #[.agg #[.int .i64 st, .int .i64 v, .slice A sl.length cap], .string b] w fun e w' => e = .returned (.bool true) ∧ Below w.heap.size w w' := by
  by_cases h : 200 < sl.length
  · exact sdecodes_long hdec st v A _ cap b w hK h
  · by_cases h2 : 3000 < b.size
    · exact sdecodes_text hdec st v A _ cap b w hK h h2
    · exact sdecodes_main hdec st v A cap sl b w hK hI h h2

end Go.Proofs.YtlkpiapmdflahaaDoor
