/-
  The law SchemaRestricts: for every schema and set, in every world.
-/
import Derived.Test.YtiifkcemieblkaaSchAwake
namespace Go.Proofs.Ytiifkcemieblkaa
open Go.RowKit

set_option maxRecDepth 100000 in
set_option maxHeartbeats 3200000 in
theorem srestricts_long (st v : Int) (A : Option Addr) (len cap : Nat) (h lw : Nat) (w : World) (hn : 300 < len) :
    Calls Try.prog 5 #[.agg #[.int .i64 st, .int .i64 v, .slice A len cap], .int .u64 (h : Int), .int .u64 (lw : Int)] w fun e w' => e = .returned (.bool true) ∧ Below w.heap.size w w' := by
  have t : decide ((300 : Int) < (len : Int)) = true := by simp; omega
  clear hn
  go_enter Try.func5, Try.ntmps5
  go_wp2_with fail
  refine (scawake_any _).mono ?_
  rintro e w1 ⟨rfl, hb1⟩
  obtain ⟨b0, b1, b2⟩ := obj_cells3 ((box_new w st v A len cap).below hb1)
  have HB1 := Lib.hid (hbt (below_al _ _) hb1)
  clear hb1
  go_wp2_with fail
  refine (scawake_any _).mono ?_
  rintro e w2 ⟨rfl, hb2⟩
  have HB2 := Lib.hid (hbt HB1.out hb2)
  clear hb2 b0 b1 b2
  go_wp2
  go_ret
  exact ⟨rfl, HB2.out⟩

/-- What the loop keeps: the list so far, in the wanted schema's block and a row of the call's own. -/
def Wants (U : World) (g : Nat) (st v : Int) (kl : List Sp) (u : World) : Prop :=
  ∃ (Y : Option Addr) (cp : Nat), Box u g st v Y kl.length cp ∧ u.ownsRow (g + 1) 34 5 (.slice Y kl.length cp) kl.length (spsC kl) ∧ Below U.heap.size U u
theorem wants_new (U : World) (g : Nat) (hg : g = U.heap.size) (st v : Int) : Wants U g st v [] (U.alloc (.cells #[.int .i64 st, .int .i64 v, .slice none 0 0] 24)) :=
  ⟨none, 0, heap_al _ _ _ hg, World.ownsRow_nil _ _ _ _, below_al _ _⟩

set_option maxRecDepth 100000 in
set_option maxHeartbeats 6400000 in
theorem srestricts_short (st v : Int) (A : Option Addr) (cap : Nat) (l : List Sp) (h lw : Nat) (w : World) (hI : Spl w A l) (hn3 : ¬ 300 < l.length) (b1 : h < M64) (b2 : lw < M64) :
    Calls Try.prog 5 #[.agg #[.int .i64 st, .int .i64 v, .slice A l.length cap], .int .u64 (h : Int), .int .u64 (lw : Int)] w fun e w' => e = .returned (.bool true) ∧ Below w.heap.size w w' := by
  obtain ⟨i0, hi, hz0, hz1, hz2⟩ := info_parts Try.infoSpec
  have t : decide ((300 : Int) < (l.length : Int)) = false := by simp; omega
  have hn : l.length ≤ 1000 := by omega
  have hkn : (keepL h lw l).length ≤ 1000 := Nat.le_trans (keep_length h lw l) hn
  have HI := Lib.hid hI
  have HY := Lib.hid (fun W hW => scopy_any st v A cap l W hW hn)
  have HBT := Lib.hid (fun W => bits_any h lw W)
  have HR := Lib.hid (fun A' c' W hW => srestrict_any st v A' c' l h lw W hW hn b1 b2)
  have HH := Lib.hid (fun (n : Int) W => refHas_any h lw n W b1 b2)
  have HRT := Lib.hid (fun W hW => sright_any st v A cap l W hW hn)
  have HRK := Lib.hid (fun A' c' W hW => sright_any st v A' c' (keepL h lw l) W hW hkn)
  have HSM := Lib.hid (fun A' c' B' d' W h1 h2 => srsame_any st v A' c' (keepL h lw l) st v B' d' (keepL h lw l) W h1 h2 hkn)
  rw [same_refl] at HSM
  have HRF := Lib.hid (right_filter (st := st) (v := v) (l := l) (fun x => hasN h lw x.1))
  have HKN := Lib.hid (keep_part h lw l)
  clear hI b1 b2 hn3
  unfold setV at *
  generalize hlen : l.length = len at *
  have HLEN := Lib.hid hlen
  clear hlen
  go_enter Try.func5, Try.ntmps5
  go_wp2_with fail
  refine (scawake_any _).mono ?_
  rintro e w1 ⟨rfl, hb1⟩
  have HX1 := Lib.hid ((box_new w st v A len cap).below hb1)
  have HB1 := Lib.hid (hbt (below_al _ _) hb1)
  obtain ⟨b0, b1, b2⟩ := obj_cells3 HX1.out
  clear hb1
  go_wp2_with fail
  refine (HY.out _ (HI.out.below HB1.out)).mono ?_
  rintro e w2 ⟨A2, c2, rfl, ht2, hb2⟩
  have HT2 := Lib.hid ht2
  have HX2 := Lib.hid (HX1.out.below hb2)
  have HB2 := Lib.hid (hbt HB1.out hb2)
  clear hb2 ht2 b0 b1 b2
  go_wp2_with fail
  refine (HBT.out _).mono ?_
  rintro e w3 ⟨rfl, hb3⟩
  have HT3 := Lib.hid (HT2.out.below hb3)
  have HX3 := Lib.hid (HX2.out.below hb3)
  have HB3 := Lib.hid (hbt HB2.out hb3)
  clear hb3
  go_wp2_with fail
  refine (HR.out _ _ _ HT3.out).mono ?_
  rintro e w4 ⟨A4, c4, rfl, ht4, hb4⟩
  generalize hkl : keepL h lw l = kl at *
  have HKL := Lib.hid hkl
  clear hkl
  generalize hm4 : kl.length = m4 at *
  have HM4 := Lib.hid hm4
  clear hm4
  have HX4 := Lib.hid ((HX3.out.below hb4).below (below_al w4 (.cells #[.int .i64 st, .int .i64 v, .slice A4 m4 c4] 24)))
  have HB4 := Lib.hid (hbt (hbt HB3.out hb4) (below_al w4 (.cells #[.int .i64 st, .int .i64 v, .slice A4 m4 c4] 24)))
  have HT4 := Lib.hid (ht4.below (below_al w4 (.cells #[.int .i64 st, .int .i64 v, .slice A4 m4 c4] 24)))
  have HZ4 := Lib.hid (box_new w4 st v A4 m4 c4)
  obtain ⟨b0, b1, b2⟩ := obj_cells3 (HX3.out.below hb4)
  have hz4 := obj_lt (HX3.out.below hb4)
  clear hb4 ht4
  have HGG : Hid (w4.heap.size + 1 = (w4.alloc (.cells #[.int .i64 st, .int .i64 v, .slice A4 m4 c4] 24)).heap.size) := (show (w4.alloc (.cells #[.int .i64 st, .int .i64 v, .slice A4 m4 c4] 24)).heap.size = w4.heap.size + 1 by simp).symm
  go_upto_region 5 with fail
  clear b0 b1 b2 hz4
  generalize w4.alloc (.cells #[.int .i64 st, .int .i64 v, .slice A4 m4 c4] 24) = U at *
  generalize w4.heap.size + 1 = g at *
  generalize w4.heap.size = gr at *
  obtain ⟨b0, b1, b2⟩ := obj_cells3 HX4.out
  have hz4 := obj_lt HX4.out
  go_wp2
  go_loopw [34] (fun i wr => ∃ k : Nat, k ≤ len ∧ i = .int .i64 (k : Int) ∧ Wants U g st v (keepL h lw (l.take k)) wr) (fun i _ => len - (intOf i).toNat)
  case atStart => exact ⟨0, Nat.zero_le _, rfl, wants_new U g HGG.out st v⟩
  case round =>
    clear b0 b1 b2
    obtain ⟨k, hk, rfl, Y, cp, hbox, hown, hb⟩ := hrel
    have HX := Lib.hid hbox
    have HO := Lib.hid hown
    have HB := Lib.hid hb
    clear hown hbox hb
    by_cases hlt : k < len
    · have hkl : k < l.length := by have := HLEN.out; omega
      obtain ⟨a, n, c, f, lo, hi', rfl, hx, c0, c1, c2, c3, c4⟩ := (HI.out.below (hbt HB4.out HB.out)).at_ hkl
      have hst : keepL h lw (l.take (k + 1)) = keepL h lw (l.take k) ++ (if hasN h lw n = true then [(n, c, f, lo, hi')] else []) := by rw [take_sp hkl, keep_snoc, hx]
      have hkk := HKN.out k
      have HC := Lib.hid (fun W => HH.out n W)
      generalize hasN h lw n = r at *
      generalize keepL h lw (l.take k) = ks' at *
      clear hx hkl
      cases r
      · have HST := Lib.hid (hst.trans (by simp : _ = ks'))
        clear hst hkk
        go_wp2_with fail
        refine (HC.out _).mono ?_
        rintro e w5 ⟨rfl, rfl⟩
        clear c0 c1 c2 c3 c4
        go_wp2
        go_roundw
        case rel => exact ⟨k + 1, by omega, by go_num, by rw [HST.out]; exact ⟨Y, cp, HX.out.below (below_al _ _), HO.out.alloc _, hbt HB.out (below_al _ _)⟩⟩
        case measure => simp [intOf]; omega
      · have HST := Lib.hid (hst.trans (by simp : _ = ks' ++ [(n, c, f, lo, hi')]))
        clear hst
        generalize hm : ks'.length = m at *
        have HMM := Lib.hid hm
        clear hm
        obtain ⟨d0, d1, d2⟩ := obj_cells3 HX.out
        have hg1 := obj_lt HX.out
        have HO2 := Lib.hid ((HO.out.alloc (.cells #[.int .i64 n, .int .i64 c, .int .i64 f, .int .i64 lo, .int .i64 hi'] 34)).alloc (.cells #[.int .i64 n, .int .i64 c, .int .i64 f, .int .i64 lo, .int .i64 hi'] 34))
        go_wp2_with fail
        refine (HC.out _).mono ?_
        rintro e w5 ⟨rfl, rfl⟩
        clear c0 c1 c2 c3 c4
        go_wp2_with (at_builtin; refine wpList_append_lies _ rfl _ _ _ rfl (g + 1) 34 i0 _ 5 40 Try.underlying22 hi hz0 hz1 hz2 rfl (by omega) (.slice Y m cp) m (spsC ks') rfl HO2.out ⟨wr.heap.size + 1, 0, none⟩ 1 1 (spC (n, c, f, lo, hi')) rfl rfl (World.news_of_block (cs := #[.int .i64 n, .int .i64 c, .int .i64 f, .int .i64 lo, .int .i64 hi']) (t := 34) (fr := (0, 0)) (heap_al _ _ _ (by simp))) (by simp [spC, Value.oneCell']) (by omega) (by unfold maxLen; omega) (by omega) (by simp; omega) (wr.heap.size + 1 + 1) (by simp) ?_; intro g' cap' w6 hown6 hgrow6 hat6 hlt6; have hbB : Below (g + 1) wr w6 := (((Below.refl _ _).alloc (by omega) _).alloc (by simp; omega) _).grown hgrow6 (by simp; omega) (fun q hq => (HO2.out.lt q hq).1); have hx6 : Box w6 g st v Y m cp := (hbB.block g (by omega)).trans HX.out; obtain ⟨j0, j1, j2⟩ := obj_cells3 hx6; obtain ⟨f0, f1, f2⟩ := obj_warm3 hx6; have HX6 := Lib.hid hx6; have HB6 := Lib.hid hbB; have HO6 := Lib.hid hown6; clear hown6 hgrow6 hat6 hlt6 hbB hx6)
        go_roundw
        case rel =>
          refine ⟨k + 1, by omega, by go_num, ?_⟩
          rw [HST.out]
          refine ⟨some ⟨g', 0, none⟩, cap', ?_, ?_, ?_⟩
          · rw [List.length_append, HMM.out]; exact heap_setCell_same _ g 2 _ _ _ HX6.out
          · rw [spsC_snoc, List.length_append, HMM.out]; exact sowns_set1 HO6.out (by omega) _ _
          · exact ((HB.out.trans (HB6.out.mono (by have := HGG.out; omega))).setCell (p := ⟨g, 2, none⟩) (by have := HGG.out; simp; omega) _)
        case measure => simp [intOf]; omega
    · have he : l.take k = l := List.take_of_length_le (by have := HLEN.out; omega)
      have hx1 := HX.out
      have ho1 := HO.out
      rw [he, HKL.out, HM4.out] at hx1 ho1
      have HXW := Lib.hid hx1
      have HTW := Lib.hid (spl_own_at ho1 HM4.out.symm)
      have HZR := Lib.hid (HZ4.out.below HB.out)
      have HTR := Lib.hid (HT4.out.below HB.out)
      have HXS := Lib.hid (HX4.out.below HB.out)
      have HBW := Lib.hid (hbt HB4.out HB.out)
      clear hx1 ho1 HX HO he
      obtain ⟨x0, x1, x2⟩ := obj_cells3 HXW.out
      obtain ⟨y0, y1, y2⟩ := obj_cells3 HZR.out
      go_wp2_with fail
      refine (HSM.out _ _ _ _ _ HTR.out HTW.out).mono ?_
      rintro e w7 ⟨rfl, hb7⟩
      have HB7 := Lib.hid (hbt HBW.out hb7)
      have HX7 := Lib.hid (HXS.out.below hb7)
      have HZ7 := Lib.hid (HZR.out.below hb7)
      have HT7 := Lib.hid (HTR.out.below hb7)
      obtain ⟨s0, s1, s2⟩ := obj_cells3 HX7.out
      clear hb7 x0 x1 x2 y0 y1 y2
      by_cases hr : (schN st v l).1 = 0
      · have hrk : (schN st v kl).1 = 0 := by rw [← HKL.out]; exact HRF.out hr
        rw [decide_eq_true hr] at HRT
        rw [decide_eq_true hrk] at HRK
        clear hr hrk
        go_wp2_with fail
        refine (HRT.out _ (HI.out.below HB7.out)).mono ?_
        rintro e w8 ⟨rfl, hb8⟩
        have HB8 := Lib.hid (hbt HB7.out hb8)
        have HT8 := Lib.hid (HT7.out.below hb8)
        obtain ⟨y0, y1, y2⟩ := obj_cells3 (HZ7.out.below hb8)
        clear hb8 s0 s1 s2
        go_wp2_with fail
        refine (HRK.out _ _ _ HT8.out).mono ?_
        rintro e w9 ⟨rfl, hb9⟩
        have HB9 := Lib.hid (hbt HB8.out hb9)
        clear hb9 y0 y1 y2
        go_wp2
        go_ret
        exact ⟨rfl, HB9.out⟩
      · rw [decide_eq_false hr] at HRT
        clear hr
        go_wp2_with fail
        refine (HRT.out _ (HI.out.below HB7.out)).mono ?_
        rintro e w8 ⟨rfl, hb8⟩
        have HB8 := Lib.hid (hbt HB7.out hb8)
        clear hb8 s0 s1 s2
        go_wp2
        go_ret
        exact ⟨rfl, HB8.out⟩
theorem srestricts_walk (st v : Int) (A : Option Addr) (cap : Nat) (l : List Sp) (h lw : Int) (w : World) (hI : Spl w A l) (_hm : l.length ≤ maxLen) (a1 : 0 ≤ h) (a2 : h ≤ 18446744073709551615) (a3 : 0 ≤ lw) (a4 : lw ≤ 18446744073709551615) :
    Calls Try.prog 5 #[.agg #[.int .i64 st, .int .i64 v, .slice A l.length cap], .int .u64 h, .int .u64 lw] w fun e w' => e = .returned (.bool true) ∧ Below w.heap.size w w' := by
  obtain ⟨x, rfl⟩ := Int.eq_ofNat_of_zero_le a1
  obtain ⟨y, rfl⟩ := Int.eq_ofNat_of_zero_le a3
  by_cases hn : 300 < l.length
  · exact srestricts_long st v A _ cap x y w hn
  · exact srestricts_short st v A cap l x y w hI hn (by unfold M64; omega) (by unfold M64; omega)

end Go.Proofs.Ytiifkcemieblkaa
