/-
  The law's awake answers true, in every world that holds the table of kinds, where the program's Decode answers as it is to.
-/
import Derived.Test.YtlkpiapmdflahaaDoorStcTold
import Derived.Test.YtlkpiapmdflahaaDoorPackDia
import Derived.Test.YtlkpiapmdflahaaDoorMsgEq
namespace Go.Proofs.YtlkpiapmdflahaaDoor
open Go.RowKit

abbrev saM : ByteArray := ⟨#[48, 56, 48, 48]⟩
abbrev saN : ByteArray := ⟨#[48, 57, 48, 48]⟩
abbrev saT : ByteArray := ⟨#[49, 50, 51, 52, 53, 54]⟩
abbrev saA : ByteArray := ⟨#[48, 56, 48, 48, 48, 48, 50, 48, 48, 48, 48, 48, 48, 48, 48, 48, 48, 48, 48, 48, 49, 50, 51, 52, 53, 54]⟩
abbrev saB : ByteArray := ⟨#[48, 56, 48, 48, 48, 48, 50, 48, 48, 48, 48, 48, 48, 48, 48, 48, 48, 48, 48, 48, 49, 50, 51, 52, 53]⟩
abbrev saC : ByteArray := ⟨#[48, 57, 48, 48, 120]⟩
theorem saw_told : decN 1 0 (refL 0 diaT) saA = (saM, [(11, saT)], (0, 0)) ∧ decN 1 0 (refL 0 diaT) saB = (saM, [], (2, 11)) ∧ decN 1 0 (refL 0 diaT) saC = (saN, [], (2, 1)) := by decide +kernel
theorem saw_len : (refL 0 diaT).length ≤ 1000 := by decide +kernel
set_option maxRecDepth 100000 in
set_option maxHeartbeats 12800000 in
theorem sawake_any (hdec : DecSpec) (w : World) (hK : Kinds w) : Calls Tryd.prog 9 #[] w fun e w' => e = .returned (.bool true) ∧ Below w.heap.size w w' := by
  have HK := Lib.hid hK
  have HS0 := Lib.hid (fun W => refsch_0 W)
  have HD1 : Hid (∀ A c W, Kinds W → Spl W A (refL 0 diaT) → Calls Tryd.prog 10 #[.agg #[.int .i64 1, .int .i64 0, .slice A (refL 0 diaT).length c], .string saA] W fun e w' => DecTo (saM, [(11, saT)], (0, 0)) W w' e) := fun A c W h1 h2 => by
    have := hdec 1 0 A c (refL 0 diaT) saA W h1 h2 saw_len (by decide)
    rw [saw_told.1] at this
    exact this
  have HD2 : Hid (∀ A c W, Kinds W → Spl W A (refL 0 diaT) → Calls Tryd.prog 10 #[.agg #[.int .i64 1, .int .i64 0, .slice A (refL 0 diaT).length c], .string saB] W fun e w' => DecTo (saM, [], (2, 11)) W w' e) := fun A c W h1 h2 => by
    have := hdec 1 0 A c (refL 0 diaT) saB W h1 h2 saw_len (by decide)
    rw [saw_told.2.1] at this
    exact this
  have HD3 : Hid (∀ A c W, Kinds W → Spl W A (refL 0 diaT) → Calls Tryd.prog 10 #[.agg #[.int .i64 1, .int .i64 0, .slice A (refL 0 diaT).length c], .string saC] W fun e w' => DecTo (saN, [], (2, 1)) W w' e) := fun A c W h1 h2 => by
    have := hdec 1 0 A c (refL 0 diaT) saC W h1 h2 saw_len (by decide)
    rw [saw_told.2.2] at this
    exact this
  have HSM : Hid (∀ A c B d W, Tlvs W A [(11, saT)] → Tlvs W B [(11, saT)] → Calls Tryd.prog 12 #[.agg #[.string saM, .slice A 1 c], .agg #[.string saM, .slice B 1 d]] W fun e w' => e = .returned (.bool true) ∧ Below W.heap.size W w') := fun A c B d W h1 h2 => by
    have := mrsame_any saM A c [(11, saT)] saM B d [(11, saT)] W h1 h2 (by simp)
    rw [sameM_refl] at this
    exact this
  have HSN : Hid (∀ A c B d W, Calls Tryd.prog 12 #[.agg #[.string saM, .slice A 0 c], .agg #[.string saM, .slice B 0 d]] W fun e w' => e = .returned (.bool true) ∧ Below W.heap.size W w') := fun A c B d W => by
    have := mrsame_any saM A c [] saM B d [] W (tlvs_nil _ _) (tlvs_nil _ _) (by simp)
    rw [sameM_refl] at this
    exact this
  clear hK
  generalize (refL 0 diaT).length = n0 at *
  generalize refL 0 diaT = L0 at *
  unfold DecTo at HD1 HD2 HD3
  go_enter Tryd.func9, Tryd.ntmps9
  go_wp2_with fail
  refine (HS0.out _).mono ?_
  rintro e w1 ⟨A, c, rfl, ht1, _, hb1⟩
  have hal := hbt hb1 (below_al w1 (.cells #[.int .i64 1, .int .i64 0, .slice A n0 c] 24))
  have HB2 := Lib.hid hal
  have HI2 := Lib.hid (ht1.below (below_al w1 (.cells #[.int .i64 1, .int .i64 0, .slice A n0 c] 24)))
  have HX2 := Lib.hid (box_new w1 1 0 A n0 c)
  clear hal ht1 hb1
  go_wp2_with fail
  generalize w1.alloc (.cells #[.int .i64 1, .int .i64 0, .slice A n0 c] 24) = W2 at *
  generalize w1.heap.size = gs at *
  refine (HD1.out A c _ (HK.out.below HB2.out) HI2.out).mono ?_
  rintro e w3 ⟨A3, c3, rfl, ht3, hb3⟩
  have hal3 := hbt (hbt hb3 (below_al w3 (.cells #[.string saM, .slice A3 1 c3] 28))) (below_al _ (.cells #[.int .i64 0, .int .i64 0] 31))
  have HB4 := Lib.hid (hbt HB2.out hal3)
  have HI4 := Lib.hid (HI2.out.below hal3)
  have HX4 := Lib.hid (HX2.out.below hal3)
  have HM4 : Hid (MBox ((w3.alloc (.cells #[.string saM, .slice A3 1 c3] 28)).alloc (.cells #[.int .i64 0, .int .i64 0] 31)) w3.heap.size saM A3 1 c3) := (mbox_new _ _ _ _ _).below (below_al _ _)
  have HF4 : Hid (((w3.alloc (.cells #[.string saM, .slice A3 1 c3] 28)).alloc (.cells #[.int .i64 0, .int .i64 0] 31)).heap[w3.heap.size + 1]? = some (.cells #[.int .i64 0, .int .i64 0] 31)) := heap_al _ _ _ (by simp)
  have HT4 := Lib.hid (ht3.below (hbt (below_al w3 (.cells #[.string saM, .slice A3 1 c3] 28)) (below_al _ (.cells #[.int .i64 0, .int .i64 0] 31))))
  obtain ⟨b0, b1, b2⟩ := obj_cells3 (HX2.out.below hb3)
  have hz := obj_lt (HX2.out.below hb3)
  have hz' : gs < w3.heap.size + 1 := by omega
  clear hal3 ht3 hb3 HB2 HI2 HX2
  go_wp2_with fail
  generalize (w3.alloc (.cells #[.string saM, .slice A3 1 c3] 28)).alloc (.cells #[.int .i64 0, .int .i64 0] 31) = W4 at *
  generalize w3.heap.size + 1 = gf4 at *
  generalize w3.heap.size = gm4 at *
  clear b0 b1 b2 hz hz'
  refine (HD2.out A c _ (HK.out.below HB4.out) HI4.out).mono ?_
  rintro e w5 ⟨A5, c5, rfl, ht5, hb5⟩
  have hal5 := hbt (hbt hb5 (below_al w5 (.cells #[.string saM, .slice A5 0 c5] 28))) (below_al _ (.cells #[.int .i64 2, .int .i64 11] 31))
  have HB6 := Lib.hid (hbt HB4.out hal5)
  have HI6 := Lib.hid (HI4.out.below hal5)
  have HX6 := Lib.hid (HX4.out.below hal5)
  have HM6 := Lib.hid (HM4.out.below hal5)
  have HF6 := Lib.hid (obj_below HF4.out hal5)
  have HT6 := Lib.hid (HT4.out.below hal5)
  have HM6' : Hid (MBox ((w5.alloc (.cells #[.string saM, .slice A5 0 c5] 28)).alloc (.cells #[.int .i64 2, .int .i64 11] 31)) w5.heap.size saM A5 0 c5) := (mbox_new _ _ _ _ _).below (below_al _ _)
  have HF6' : Hid (((w5.alloc (.cells #[.string saM, .slice A5 0 c5] 28)).alloc (.cells #[.int .i64 2, .int .i64 11] 31)).heap[w5.heap.size + 1]? = some (.cells #[.int .i64 2, .int .i64 11] 31)) := heap_al _ _ _ (by simp)
  obtain ⟨b0, b1, b2⟩ := obj_cells3 (HX4.out.below hb5)
  have hz := obj_lt (HX4.out.below hb5)
  have hz' : gs < w5.heap.size + 1 := by omega
  clear hal5 ht5 hb5 HB4 HI4 HX4 HM4 HF4 HT4
  go_wp2_with fail
  generalize (w5.alloc (.cells #[.string saM, .slice A5 0 c5] 28)).alloc (.cells #[.int .i64 2, .int .i64 11] 31) = W6 at *
  generalize w5.heap.size + 1 = gf6 at *
  generalize w5.heap.size = gm6 at *
  clear b0 b1 b2 hz hz'
  refine (HD3.out A c _ (HK.out.below HB6.out) HI6.out).mono ?_
  rintro e w7 ⟨A7, c7, rfl, ht7, hb7⟩
  have hal7 := hbt (hbt hb7 (below_al w7 (.cells #[.string saN, .slice A7 0 c7] 28))) (below_al _ (.cells #[.int .i64 2, .int .i64 1] 31))
  have HB8 := Lib.hid (hbt HB6.out hal7)
  have HM8 := Lib.hid (HM6.out.below hal7)
  have HF8 := Lib.hid (obj_below HF6.out hal7)
  have HT8 := Lib.hid (HT6.out.below hal7)
  have HM8' := Lib.hid (HM6'.out.below hal7)
  have HF8' := Lib.hid (obj_below HF6'.out hal7)
  have HF8'' : Hid (((w7.alloc (.cells #[.string saN, .slice A7 0 c7] 28)).alloc (.cells #[.int .i64 2, .int .i64 1] 31)).heap[w7.heap.size + 1]? = some (.cells #[.int .i64 2, .int .i64 1] 31)) := heap_al _ _ _ (by simp)
  obtain ⟨b0, b1, _, _⟩ := obj_cells (HM6.out.below hb7)
  have hz := obj_lt (HM6.out.below hb7)
  have hz' : gm4 < w7.heap.size + 1 := by omega
  clear hal7 ht7 hb7 HB6 HI6 HX6 HM6 HF6 HT6 HM6' HF6'
  have HV : Hid (Tlvs (((w7.alloc (.cells #[.string saN, .slice A7 0 c7] 28)).alloc (.cells #[.int .i64 2, .int .i64 1] 31)).alloc (.cells #[.int .i64 11, .string saT] 42)) (some ⟨w7.heap.size + 1 + 1, 0, none⟩) [(11, saT)]) := vals_row (heap_al _ (.cells #[.int .i64 11, .string saT] 42) _ (by simp)) rfl
  have HVB := Lib.hid (below_al ((w7.alloc (.cells #[.string saN, .slice A7 0 c7] 28)).alloc (.cells #[.int .i64 2, .int .i64 1] 31)) (.cells #[.int .i64 11, .string saT] 42))
  go_wp2_with fail
  refine (HSM.out _ _ _ _ _ (HT8.out.below HVB.out) HV.out).mono ?_
  rintro e w9 ⟨rfl, hb9⟩
  have hal9 := hbt HVB.out hb9
  have HB9 := Lib.hid (hbt HB8.out hal9)
  have HF9 := Lib.hid (obj_below HF8'.out hal9)
  have HF9' := Lib.hid (obj_below HF8''.out hal9)
  clear b0 b1 hz hz'
  obtain ⟨b0, b1, _, _⟩ := obj_cells (obj_below HF8.out hal9)
  obtain ⟨b2, b3, _, _⟩ := obj_cells (HM8'.out.below hal9)
  clear hal9 hb9 HV HVB HT8 HF8 HM8' HF8' HF8'' HM8 HB8
  go_wp2_with fail
  refine (HSN.out _ _ _ _ _).mono ?_
  rintro e w10 ⟨rfl, hb10⟩
  clear b0 b1 b2 b3
  obtain ⟨b0, b1, _, _⟩ := obj_cells (obj_below HF9.out hb10)
  obtain ⟨b2, b3, _, _⟩ := obj_cells (obj_below HF9'.out hb10)
  have HB10 := Lib.hid (hbt HB9.out hb10)
  clear hb10
  go_wp2
  go_ret
  exact ⟨rfl, HB10.out⟩

end Go.Proofs.YtlkpiapmdflahaaDoor
