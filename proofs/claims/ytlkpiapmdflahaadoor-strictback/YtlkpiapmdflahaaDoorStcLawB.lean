/-
  The law StrictBack: for every schema and message, in every world that holds the table of kinds.
-/
import Derived.Test.YtlkpiapmdflahaaDoorStcAwk
import Derived.Test.YtlkpiapmdflahaaDoorStcLen
import Derived.Test.YtlkpiapmdflahaaDoorStcDuo
import Derived.Test.YtlkpiapmdflahaaDoorWirEnc
import Derived.Test.YtlkpiapmdflahaaDoorMsgRead
namespace Go.Proofs.YtlkpiapmdflahaaDoor
open Go.RowKit

set_option maxRecDepth 100000 in
set_option maxHeartbeats 3200000 in
theorem sback_long (hdec : DecSpec) (st v : Int) (A : Option Addr) (len cap : Nat) (m : ByteArray) (B : Option Addr) (n c : Nat) (w : World) (hK : Kinds w) (h : 200 < len) :
    Calls Tryd.prog 4 #[.agg #[.int .i64 st, .int .i64 v, .slice A len cap], .agg #[.string m, .slice B n c]] w fun e w' => e = .returned (.bool true) ∧ Below w.heap.size w w' := by
  have t : decide ((200 : Int) < (len : Int)) = true := by simp; omega
  have HT := Lib.hid (sduo_new w st v A len cap m B n c)
  have HK := Lib.hid (hK.below HT.out.1)
  clear h hK
  go_enter Tryd.func4, Tryd.ntmps4
  go_wp2_with fail
  generalize (w.alloc (.cells #[.int .i64 st, .int .i64 v, .slice A len cap] 24)).alloc (.cells #[.string m, .slice B n c] 28) = U at *
  refine (sawake_any hdec _ HK.out).mono ?_
  rintro e w1 ⟨rfl, hb1⟩
  have HT1 := Lib.hid (HT.out.below hb1)
  have HK1 := Lib.hid (HK.out.below hb1)
  obtain ⟨b0, b1, b2⟩ := obj_cells3 HT1.out.2.1
  clear hb1
  go_wp2_with fail
  refine (sawake_any hdec _ HK1.out).mono ?_
  rintro e w2 ⟨rfl, hb2⟩
  have HB2 := Lib.hid (hbt HT1.out.1 hb2)
  clear hb2 b0 b1 b2
  go_wp2
  go_ret
  exact ⟨rfl, HB2.out⟩
set_option maxRecDepth 100000 in
set_option maxHeartbeats 3200000 in
theorem sback_great (hdec : DecSpec) (st v : Int) (A : Option Addr) (len cap : Nat) (m : ByteArray) (B : Option Addr) (c : Nat) (l : List Item) (w : World) (hK : Kinds w) (hL : Tlvs w B l) (hf : ∀ x ∈ l, x.2.size ≤ maxLen) (h : ¬ 200 < len) (hg : greatM m l = true) :
    Calls Tryd.prog 4 #[.agg #[.int .i64 st, .int .i64 v, .slice A len cap], .agg #[.string m, .slice B l.length c]] w fun e w' => e = .returned (.bool true) ∧ Below w.heap.size w w' := by
  have t : decide ((200 : Int) < (len : Int)) = false := by simp; omega
  have HT := Lib.hid (sduo_new w st v A len cap m B l.length c)
  have HK := Lib.hid (hK.below HT.out.1)
  have HL := Lib.hid (hL.below HT.out.1)
  have HG := Lib.hid (fun W hW => mgreat_any m B c l W hW hf)
  rw [hg] at HG
  clear h hK hL hf hg
  generalize l.length = n at *
  go_enter Tryd.func4, Tryd.ntmps4
  go_wp2_with fail
  generalize (w.alloc (.cells #[.int .i64 st, .int .i64 v, .slice A len cap] 24)).alloc (.cells #[.string m, .slice B n c] 28) = U at *
  refine (sawake_any hdec _ HK.out).mono ?_
  rintro e w1 ⟨rfl, hb1⟩
  have HT1 := Lib.hid (HT.out.below hb1)
  have HK1 := Lib.hid (HK.out.below hb1)
  have HL1 := Lib.hid (HL.out.below hb1)
  obtain ⟨b0, b1, b2⟩ := obj_cells3 HT1.out.2.1
  obtain ⟨b3, b4, _, _⟩ := obj_cells HT1.out.2.2
  clear hb1
  go_wp2_with fail
  refine (HG.out _ HL1.out).mono ?_
  rintro e w2 ⟨rfl, hb2⟩
  have HB2 := Lib.hid (hbt HT1.out.1 hb2)
  have HK2 := Lib.hid (HK1.out.below hb2)
  clear hb2 b0 b1 b2 b3 b4
  go_wp2_with fail
  refine (sawake_any hdec _ HK2.out).mono ?_
  rintro e w3 ⟨rfl, hb3⟩
  have HB3 := Lib.hid (hbt HB2.out hb3)
  clear hb3
  go_wp2
  go_ret
  exact ⟨rfl, HB3.out⟩
set_option maxRecDepth 100000 in
set_option maxHeartbeats 12800000 in
theorem sback_main (hdec : DecSpec) (st v : Int) (A : Option Addr) (cap : Nat) (sl : List Sp) (m : ByteArray) (B : Option Addr) (c : Nat) (l : List Item) (w : World) (hK : Kinds w) (hI : Spl w A sl) (hL : Tlvs w B l) (hf : ∀ x ∈ l, x.2.size ≤ maxLen) (h : ¬ 200 < sl.length) (hg : greatM m l = false) :
    Calls Tryd.prog 4 #[.agg #[.int .i64 st, .int .i64 v, .slice A sl.length cap], .agg #[.string m, .slice B l.length c]] w fun e w' => e = .returned (.bool true) ∧ Below w.heap.size w w' := by
  have t : decide ((200 : Int) < (sl.length : Int)) = false := by simp; omega
  have hn : sl.length ≤ 1000 := by omega
  have hl : l.length ≤ 200 := (great_in hg).2.1
  have HT := Lib.hid (sduo_new w st v A sl.length cap m B l.length c)
  have HK := Lib.hid (hK.below HT.out.1)
  have HL := Lib.hid (hL.below HT.out.1)
  have HI := Lib.hid (hI.below HT.out.1)
  have HG := Lib.hid (fun W hW => mgreat_any m B c l W hW hf)
  rw [hg] at HG
  have HC := Lib.hid (fun W h0 h1 h2 => wenc_any st v A cap sl m B c l W h0 h1 h2 hn (by omega) hf)
  have HN : Hid ((msgN st v sl m l).1 ≠ 0 → encS st v sl m l = ⟨#[]⟩) := fun e => encS_no (fun e1 => e (by rw [e1]))
  have HD : Hid ((msgN st v sl m l).1 = 0 → (msgN st v sl m l).2 = 0 ∧ (encS st v sl m l).size ≤ 500000 ∧ ∀ W, Kinds W → Spl W A sl → Calls Tryd.prog 10 #[.agg #[.int .i64 st, .int .i64 v, .slice A sl.length cap], .string (encS st v sl m l)] W fun e w' => DecTo (m, l, (0, 0)) W w' e) := fun e => by
    have h1 := wmsgN_first e
    have h2 := enc_size h1 hl
    refine ⟨by rw [h1], h2, fun W k1 k2 => ?_⟩
    have := hdec st v A cap sl (encS st v sl m l) W k1 k2 hn (by omega)
    rw [dec_whole h1] at this
    exact this
  have HS : Hid (∀ B' d W, Tlvs W B l → Tlvs W B' l → Calls Tryd.prog 12 #[.agg #[.string m, .slice B l.length c], .agg #[.string m, .slice B' l.length d]] W fun e w' => e = .returned (.bool true) ∧ Below W.heap.size W w') := fun B' d W h1 h2 => by
    have := mrsame_any m B c l m B' d l W h1 h2 (by omega)
    rw [sameM_refl] at this
    exact this
  clear h hK hL hI hf hg hl hn
  unfold DecTo at HD
  dsimp only at HD
  generalize encS st v sl m l = xb at *
  generalize (msgN st v sl m l).1 = z at *
  generalize (msgN st v sl m l).2 = z' at *
  generalize sl.length = len at *
  generalize l.length = n at *
  go_enter Tryd.func4, Tryd.ntmps4
  go_wp2_with fail
  generalize (w.alloc (.cells #[.int .i64 st, .int .i64 v, .slice A len cap] 24)).alloc (.cells #[.string m, .slice B n c] 28) = U at *
  refine (sawake_any hdec _ HK.out).mono ?_
  rintro e x1 ⟨rfl, hb1⟩
  have HT1 := Lib.hid (HT.out.below hb1)
  have HK1 := Lib.hid (HK.out.below hb1)
  have HL1 := Lib.hid (HL.out.below hb1)
  have HI1 := Lib.hid (HI.out.below hb1)
  obtain ⟨b0, b1, b2⟩ := obj_cells3 HT1.out.2.1
  obtain ⟨b3, b4, _, _⟩ := obj_cells HT1.out.2.2
  clear hb1 HT HK HL HI
  go_wp2_with fail
  refine (HG.out _ HL1.out).mono ?_
  rintro e x2 ⟨rfl, hb2⟩
  have HT2 := Lib.hid (HT1.out.below hb2)
  have HK2 := Lib.hid (HK1.out.below hb2)
  have HL2 := Lib.hid (HL1.out.below hb2)
  have HI2 := Lib.hid (HI1.out.below hb2)
  clear hb2 b0 b1 b2 b3 b4 HT1 HK1 HL1 HI1
  obtain ⟨b0, b1, b2⟩ := obj_cells3 HT2.out.2.1
  obtain ⟨b3, b4, _, _⟩ := obj_cells HT2.out.2.2
  go_wp2_with fail
  refine (HC.out _ HK2.out HI2.out HL2.out).mono ?_
  rintro e x3 ⟨rfl, hb3⟩
  have hal := hbt hb3 (below_al x3 (.cells #[.int .i64 z, .int .i64 z'] 31))
  have HT4 := Lib.hid (HT2.out.below hal)
  have HK4 := Lib.hid (HK2.out.below hal)
  have HL4 := Lib.hid (HL2.out.below hal)
  have HI4 := Lib.hid (HI2.out.below hal)
  clear b0 b1 b2 b3 b4
  obtain ⟨b0, b1, b2⟩ := obj_cells3 (HT2.out.below hb3).2.1
  have hz := obj_lt (HT2.out.below hb3).2.1
  clear hb3 hal HT2 HK2 HL2 HI2
  by_cases hz0 : z = 0
  · subst hz0
    obtain ⟨rfl, hxz, hd⟩ := HD.out rfl
    have HDD := Lib.hid hd
    clear hd HD HN hxz
    go_wp2_with fail
    generalize x3.alloc (.cells #[.int .i64 0, .int .i64 0] 31) = X4 at *
    generalize x3.heap.size = gf at *
    clear b0 b1 b2 hz
    refine (HDD.out _ HK4.out HI4.out).mono ?_
    rintro e w5 ⟨A5, c5, rfl, ht5, hb5⟩
    have hal := hbt (hbt hb5 (below_al w5 (.cells #[.string m, .slice A5 n c5] 28))) (below_al _ (.cells #[.int .i64 0, .int .i64 0] 31))
    have HT6 := Lib.hid (HT4.out.below hal)
    have HL6 := Lib.hid (HL4.out.below hal)
    have HM5 : Hid (MBox ((w5.alloc (.cells #[.string m, .slice A5 n c5] 28)).alloc (.cells #[.int .i64 0, .int .i64 0] 31)) w5.heap.size m A5 n c5) := (mbox_new _ _ _ _ _).below (below_al _ _)
    have HF5 : Hid (((w5.alloc (.cells #[.string m, .slice A5 n c5] 28)).alloc (.cells #[.int .i64 0, .int .i64 0] 31)).heap[w5.heap.size + 1]? = some (.cells #[.int .i64 0, .int .i64 0] 31)) := heap_al _ _ _ (by simp)
    have HT5 := Lib.hid (ht5.below (hbt (below_al w5 (.cells #[.string m, .slice A5 n c5] 28)) (below_al _ (.cells #[.int .i64 0, .int .i64 0] 31))))
    obtain ⟨b3, b4, _, _⟩ := obj_cells (HT4.out.below hb5).2.2
    have hz := obj_lt (HT4.out.below hb5).2.2
    have hz' : w.heap.size + 1 < w5.heap.size + 1 := by omega
    clear hal ht5 hb5 HT4 HK4 HL4 HI4
    go_wp2_with fail
    generalize (w5.alloc (.cells #[.string m, .slice A5 n c5] 28)).alloc (.cells #[.int .i64 0, .int .i64 0] 31) = W6 at *
    generalize w5.heap.size + 1 = gf5 at *
    generalize w5.heap.size = gm5 at *
    clear b3 b4 hz hz'
    refine (HS.out _ _ _ HL6.out HT5.out).mono ?_
    rintro e w7 ⟨rfl, hb7⟩
    have HB7 := Lib.hid (hbt HT6.out.1 hb7)
    clear hb7
    go_wp2
    go_ret
    exact ⟨rfl, HB7.out⟩
  · obtain rfl := HN.out hz0
    have tz : (z == 0) = false := by simpa using hz0
    clear hz0 HD HN
    go_wp2
    go_ret
    exact ⟨rfl, HT4.out.1⟩
theorem sback_walk (hdec : DecSpec) (st v : Int) (A : Option Addr) (cap : Nat) (sl : List Sp) (m : ByteArray) (B : Option Addr) (c : Nat) (l : List Item) (w : World) (hK : Kinds w) (hI : Spl w A sl) (hL : Tlvs w B l) (hf : ∀ x ∈ l, x.2.size ≤ maxLen) :
    Calls Tryd.prog 4 #[.agg #[.int .i64 st, .int .i64 v, .slice A sl.length cap], .agg #[.string m, .slice B l.length c]] w fun e w' => e = .returned (.bool true) ∧ Below w.heap.size w w' := by
  by_cases h : 200 < sl.length
  · exact sback_long hdec st v A _ cap m B _ c w hK h
  · cases hg : greatM m l
    · exact sback_main hdec st v A cap sl m B c l w hK hI hL hf h hg
    · exact sback_great hdec st v A _ cap m B c l w hK hL hf h hg

end Go.Proofs.YtlkpiapmdflahaaDoor
