/-
  The law XlateValid: for every map, schemas and message, in every world where the table of kinds reads as it is laid.
-/
import Derived.Test.YthheflgfbdcnlaaDoorXltLm
import Derived.Test.YthheflgfbdcnlaaDoorPackMsg
import Derived.Test.YthheflgfbdcnlaaDoorRulSize
import Derived.Test.YthheflgfbdcnlaaDoorRulChk
import Derived.Test.YthheflgfbdcnlaaDoorRulDo
namespace Go.Proofs.YthheflgfbdcnlaaDoor
open Go.RowKit

theorem out_none (xs : List Item) (h : ∀ y ∈ xs, y.2.size ≤ maxLen) : ∀ y ∈ xsort xs, y.2.size ≤ maxLen := fun y hy => h y (mem_sort.1 hy).1
/-- How long the texts are that a message becomes. -/
theorem xmade_sizes {b : List Sp} {R : List Ru} {l : List Item} (hf : Fit4 R) (hs : ∀ x ∈ l, x.2.size ≤ maxLen) : ∀ y ∈ xsort (xmade b R l ++ xcon R), y.2.size ≤ maxLen := by
  refine out_none _ fun y hy => ?_
  rcases List.mem_append.1 hy with hy | hy
  · simp only [xmade, List.mem_map] at hy
    obtain ⟨x, hx, rfl⟩ := hy
    show (xone b R x).2.1.size ≤ maxLen
    unfold xone
    cases hi : ruI x.1 R
    · exact Nat.zero_le _
    · rename_i i
      have h := hf.at_ (ruI_some hi).1
      exact rap_size h.2.2 h.1 (hs x hx)
  · simp only [xcon, List.mem_map, List.mem_filter] at hy
    obtain ⟨r, ⟨hr, _⟩, rfl⟩ := hy
    exact (hf r hr).1
set_option maxRecDepth 100000 in
set_option maxHeartbeats 25600000 in
theorem xvalid_row (X : Option Addr) (cM : Nat) (M : List PairT) (Y : Option Addr) (cR : Nat) (R : List Ru) (st v : Int) (A : Option Addr) (ca : Nat) (a : List Sp) (st' v' : Int) (A' : Option Addr) (cb : Nat) (b : List Sp) (m : ByteArray) (B : Option Addr) (cx : Nat) (l : List Item) (w : World) (hK : Kinds w) (hM : Prs w X M) (hlM : M.length ≤ maxLen) (hfM : Fit2 M) (hcM : M.length ≤ cM) (hR : Rls w Y R) (hlR : R.length ≤ maxLen) (hf3 : Fit3 R) (hA : Spl w A a) (hma : a.length ≤ maxLen) (hB : Spl w A' b) (hmb : b.length ≤ maxLen) (_ : m.size ≤ maxLen) (hI : Tlvs w B l) (_ : l.length ≤ maxLen) (hs : ∀ x ∈ l, x.2.size ≤ maxLen) :
    Calls Tryd.prog 3 #[.agg #[.slice X M.length cM, .slice Y R.length cR], .agg #[.int .i64 st, .int .i64 v, .slice A a.length ca, .int .i64 st', .int .i64 v', .slice A' b.length cb], .agg #[.string m, .slice B l.length cx]] w fun e w' => e = .returned (.bool true) ∧ Below w.heap.size w w' := by
  have HAW := Lib.hid (fun W h => xawake_any rchk_any rapp_any W h)
  have HG := Lib.hid (fun W h1 h2 => xlgreat_any X cM M Y cR R st v A a.length ca st' v' A' b.length cb W h1 h2 hlM hlR hfM hf3 hma hmb)
  have HGM := Lib.hid (fun W h => mgreat_any m B cx l W h hs)
  have HQ0 := Lib.hid (lm_new w X M.length cM Y R.length cR st v A a.length ca st' v' A' b.length cb m B l.length cx)
  have HK := Lib.hid hK
  have HM := Lib.hid hM
  have HR := Lib.hid hR
  have HA := Lib.hid hA
  have HB := Lib.hid hB
  have HI := Lib.hid hI
  cases hg : (xgreatB M R || decide (200 < a.length) || decide (200 < b.length))
  · simp only [Bool.or_eq_false_iff, decide_eq_false_iff_not] at hg
    obtain ⟨⟨hg1, hg2⟩, hg3⟩ := hg
    have hf4 := xgreat_four hg1 hf3
    have hgz : (xgreatB M R || decide (200 < a.length) || decide (200 < b.length)) = false := by rw [hg1, decide_eq_false hg2, decide_eq_false hg3]; rfl
    rw [hgz] at HG
    cases hgm : greatM m l
    · rw [hgm] at HGM
      have hl2 := (great_in hgm).2.1
      have HTR := Lib.hid (fun W k0 k1 k2 k3 k4 k5 => xtrans_any rchk_any rapp_any X cM M Y cR R st v A ca a st' v' A' cb b m B cx l W k0 k1 k2 k3 k4 k5 (by omega) (by omega) hlM hcM hlR hf4 (by omega) hs)
      rcases xt_cases (st := st) (v := v) (a := a) (st' := st') (v' := v') (b := b) (M := M) (R := R) (m := m) (l := l) with ⟨⟨k1, k2⟩, hk, hT⟩ | ⟨h1, h2, h3, h4⟩
      · rw [hT] at HTR
        have HSM := Lib.hid (fun E ce W => mrsame_any ⟨#[]⟩ E ce [] ⟨#[]⟩ none 0 [] W (tlvs_nil _ _) (tlvs_nil _ _) (Nat.zero_le _))
        rw [sameM_refl] at HSM
        have tk : (k1 == 0) = false := by simpa using hk
        clear hT hK hM hR hA hB hI hlM hfM hcM hlR hf3 hma hmb hs hg1 hg2 hg3 hgz hf4 hgm hl2 hk
        generalize M.length = n at *
        generalize R.length = nr at *
        generalize a.length = la at *
        generalize b.length = lb at *
        generalize l.length = lx at *
        go_enter Tryd.func3, Tryd.ntmps3
        go_wp2_with fail
        generalize ((w.alloc (.cells #[.slice X n cM, .slice Y nr cR] 25)).alloc (.cells #[.int .i64 st, .int .i64 v, .slice A la ca, .int .i64 st', .int .i64 v', .slice A' lb cb] 29)).alloc (.cells #[.string m, .slice B lx cx] 32) = U at *
        refine (HAW.out _ (HK.out.below HQ0.out.1.1)).mono ?_
        rintro e w1 ⟨rfl, hb1⟩
        have HQ1 := Lib.hid (HQ0.out.below hb1)
        clear hb1 HQ0
        obtain ⟨⟨m0, m1⟩, a0, a1, a2, b0, b1, b2⟩ := HQ1.out.1.cells
        go_wp2_with fail
        clear m0 m1 a0 a1 a2 b0 b1 b2
        refine (HG.out _ (HM.out.below HQ1.out.1.1) (HR.out.below HQ1.out.1.1)).mono ?_
        rintro e w2 ⟨rfl, hb2⟩
        have HQ2 := Lib.hid (HQ1.out.below hb2)
        clear hb2 HQ1
        obtain ⟨x0, x1, _, _⟩ := obj_cells HQ2.out.2
        go_wp2_with fail
        clear x0 x1
        refine (HGM.out _ (HI.out.below HQ2.out.1.1)).mono ?_
        rintro e w3 ⟨rfl, hb3⟩
        have HQ3 := Lib.hid (HQ2.out.below hb3)
        clear hb3 HQ2
        obtain ⟨⟨m0, m1⟩, a0, a1, a2, b0, b1, b2⟩ := HQ3.out.1.cells
        obtain ⟨x0, x1, _, _⟩ := obj_cells HQ3.out.2
        go_wp2_with fail
        clear m0 m1 a0 a1 a2 b0 b1 b2 x0 x1
        refine (HTR.out _ (HK.out.below HQ3.out.1.1) (HM.out.below HQ3.out.1.1) (HR.out.below HQ3.out.1.1) (HA.out.below HQ3.out.1.1) (HB.out.below HQ3.out.1.1) (HI.out.below HQ3.out.1.1)).mono ?_
        rintro e w4 ⟨D, cd, rfl, _, hb4⟩
        have hbm := below_al w4 (.cells #[.string ⟨#[]⟩, .slice D 0 cd] 32)
        have hbf := below_al (w4.alloc (.cells #[.string ⟨#[]⟩, .slice D 0 cd] 32)) (.cells #[.int .i64 k1, .int .i64 k2] 38)
        have HB5 := Lib.hid (hbt HQ3.out.1.1 (hbt hb4 (hbt hbm hbf)))
        have HM5 : Hid (MBox ((w4.alloc (.cells #[.string ⟨#[]⟩, .slice D 0 cd] 32)).alloc (.cells #[.int .i64 k1, .int .i64 k2] 38)) w4.heap.size ⟨#[]⟩ D 0 cd) := obj_below (heap_alloc_new _ _) hbf
        clear hb4 hbm hbf HQ3 HTR
        obtain ⟨d0, d1, _, _⟩ := obj_cells HM5.out
        go_wp2_with fail
        clear d0 d1
        generalize (w4.alloc (.cells #[.string ⟨#[]⟩, .slice D 0 cd] 32)).alloc (.cells #[.int .i64 k1, .int .i64 k2] 38) = W5 at *
        refine (HSM.out D cd _).mono ?_
        rintro e w6 ⟨rfl, hb6⟩
        have HB6 := Lib.hid (hbt HB5.out hb6)
        clear hb6
        go_wp2
        go_ret
        exact ⟨rfl, HB6.out⟩
      · have h2z := msgN_told h2
        have hv := xlt_valid h1 h2z h3 h4
        have hvl := xsort_length hv
        have hsz := xmade_sizes (b := b) (R := R) (l := l) hf4 hs
        rw [xt_ok h1 h2 h3 h4] at HTR
        have HCH := Lib.hid (fun E ce W k0 k1 k2 => mcheck_any st' v' A' cb b (appS M m) E ce (xsort (xmade b R l ++ xcon R)) W k0 k1 k2 (by omega) (by omega) hsz)
        rw [hv] at HCH
        generalize xsort (xmade b R l ++ xcon R) = V at *
        generalize appS M m = mo at *
        clear hK hM hR hA hB hI hlM hfM hcM hlR hf3 hma hmb hs hg1 hg2 hg3 hgz hf4 hgm hl2 h1 h2 h3 h4 h2z hv hvl hsz
        generalize M.length = n at *
        generalize R.length = nr at *
        generalize a.length = la at *
        generalize b.length = lb at *
        generalize l.length = lx at *
        generalize hvn : V.length = vn at *
        have HVN := Lib.hid hvn
        clear hvn
        go_enter Tryd.func3, Tryd.ntmps3
        go_wp2_with fail
        generalize ((w.alloc (.cells #[.slice X n cM, .slice Y nr cR] 25)).alloc (.cells #[.int .i64 st, .int .i64 v, .slice A la ca, .int .i64 st', .int .i64 v', .slice A' lb cb] 29)).alloc (.cells #[.string m, .slice B lx cx] 32) = U at *
        refine (HAW.out _ (HK.out.below HQ0.out.1.1)).mono ?_
        rintro e w1 ⟨rfl, hb1⟩
        have HQ1 := Lib.hid (HQ0.out.below hb1)
        clear hb1 HQ0
        obtain ⟨⟨m0, m1⟩, a0, a1, a2, b0, b1, b2⟩ := HQ1.out.1.cells
        go_wp2_with fail
        clear m0 m1 a0 a1 a2 b0 b1 b2
        refine (HG.out _ (HM.out.below HQ1.out.1.1) (HR.out.below HQ1.out.1.1)).mono ?_
        rintro e w2 ⟨rfl, hb2⟩
        have HQ2 := Lib.hid (HQ1.out.below hb2)
        clear hb2 HQ1
        obtain ⟨x0, x1, _, _⟩ := obj_cells HQ2.out.2
        go_wp2_with fail
        clear x0 x1
        refine (HGM.out _ (HI.out.below HQ2.out.1.1)).mono ?_
        rintro e w3 ⟨rfl, hb3⟩
        have HQ3 := Lib.hid (HQ2.out.below hb3)
        clear hb3 HQ2
        obtain ⟨⟨m0, m1⟩, a0, a1, a2, b0, b1, b2⟩ := HQ3.out.1.cells
        obtain ⟨x0, x1, _, _⟩ := obj_cells HQ3.out.2
        go_wp2_with fail
        clear m0 m1 a0 a1 a2 b0 b1 b2 x0 x1
        refine (HTR.out _ (HK.out.below HQ3.out.1.1) (HM.out.below HQ3.out.1.1) (HR.out.below HQ3.out.1.1) (HA.out.below HQ3.out.1.1) (HB.out.below HQ3.out.1.1) (HI.out.below HQ3.out.1.1)).mono ?_
        rintro e w4 ⟨D, cd, rfl, htd, hb4⟩
        dsimp only at htd ⊢
        rw [HVN.out]
        have hbm := below_al w4 (.cells #[.string mo, .slice D vn cd] 32)
        have hbf := below_al (w4.alloc (.cells #[.string mo, .slice D vn cd] 32)) (.cells #[.int .i64 0, .int .i64 0] 38)
        have HQ5 := Lib.hid (HQ3.out.below (hbt hb4 (hbt hbm hbf)))
        have HD5 := Lib.hid (htd.below (hbt hbm hbf))
        have HM5 : Hid (MBox ((w4.alloc (.cells #[.string mo, .slice D vn cd] 32)).alloc (.cells #[.int .i64 0, .int .i64 0] 38)) w4.heap.size mo D vn cd) := obj_below (heap_alloc_new _ _) hbf
        clear hb4 hbm hbf HQ3 HTR htd
        obtain ⟨d0, d1, _, _⟩ := obj_cells HM5.out
        obtain ⟨⟨m0, m1⟩, a0, a1, a2, b0, b1, b2⟩ := HQ5.out.1.cells
        go_wp2_with fail
        clear d0 d1 m0 m1 a0 a1 a2 b0 b1 b2
        generalize (w4.alloc (.cells #[.string mo, .slice D vn cd] 32)).alloc (.cells #[.int .i64 0, .int .i64 0] 38) = W5 at *
        refine (HCH.out D cd _ (HK.out.below HQ5.out.1.1) (HB.out.below HQ5.out.1.1) HD5.out).mono ?_
        rintro e w6 ⟨rfl, hb6⟩
        have HB6 := Lib.hid (hbt HQ5.out.1.1 hb6)
        clear hb6
        go_wp2
        go_ret
        exact ⟨rfl, HB6.out⟩
    · rw [hgm] at HGM
      clear hK hM hR hA hB hI hlM hfM hcM hlR hf3 hma hmb hs hg1 hg2 hg3 hgz hf4 hgm
      generalize M.length = n at *
      generalize R.length = nr at *
      generalize a.length = la at *
      generalize b.length = lb at *
      generalize l.length = lx at *
      go_enter Tryd.func3, Tryd.ntmps3
      go_wp2_with fail
      generalize ((w.alloc (.cells #[.slice X n cM, .slice Y nr cR] 25)).alloc (.cells #[.int .i64 st, .int .i64 v, .slice A la ca, .int .i64 st', .int .i64 v', .slice A' lb cb] 29)).alloc (.cells #[.string m, .slice B lx cx] 32) = U at *
      refine (HAW.out _ (HK.out.below HQ0.out.1.1)).mono ?_
      rintro e w1 ⟨rfl, hb1⟩
      have HQ1 := Lib.hid (HQ0.out.below hb1)
      clear hb1 HQ0
      obtain ⟨⟨m0, m1⟩, a0, a1, a2, b0, b1, b2⟩ := HQ1.out.1.cells
      go_wp2_with fail
      clear m0 m1 a0 a1 a2 b0 b1 b2
      refine (HG.out _ (HM.out.below HQ1.out.1.1) (HR.out.below HQ1.out.1.1)).mono ?_
      rintro e w2 ⟨rfl, hb2⟩
      have HQ2 := Lib.hid (HQ1.out.below hb2)
      clear hb2 HQ1
      obtain ⟨x0, x1, _, _⟩ := obj_cells HQ2.out.2
      go_wp2_with fail
      clear x0 x1
      refine (HGM.out _ (HI.out.below HQ2.out.1.1)).mono ?_
      rintro e w3 ⟨rfl, hb3⟩
      have HQ3 := Lib.hid (HQ2.out.below hb3)
      clear hb3 HQ2
      go_wp2_with fail
      refine (HAW.out _ (HK.out.below HQ3.out.1.1)).mono ?_
      rintro e w4 ⟨rfl, hb4⟩
      have HQ4 := Lib.hid (HQ3.out.below hb4)
      clear hb4
      go_wp2
      go_ret
      exact ⟨rfl, HQ4.out.1.1⟩
  · rw [hg] at HG
    clear hK hM hR hA hB hI hlM hfM hcM hlR hf3 hma hmb hs hg
    generalize M.length = n at *
    generalize R.length = nr at *
    generalize a.length = la at *
    generalize b.length = lb at *
    generalize l.length = lx at *
    go_enter Tryd.func3, Tryd.ntmps3
    go_wp2_with fail
    generalize ((w.alloc (.cells #[.slice X n cM, .slice Y nr cR] 25)).alloc (.cells #[.int .i64 st, .int .i64 v, .slice A la ca, .int .i64 st', .int .i64 v', .slice A' lb cb] 29)).alloc (.cells #[.string m, .slice B lx cx] 32) = U at *
    refine (HAW.out _ (HK.out.below HQ0.out.1.1)).mono ?_
    rintro e w1 ⟨rfl, hb1⟩
    have HQ1 := Lib.hid (HQ0.out.below hb1)
    clear hb1 HQ0
    obtain ⟨⟨m0, m1⟩, a0, a1, a2, b0, b1, b2⟩ := HQ1.out.1.cells
    go_wp2_with fail
    clear m0 m1 a0 a1 a2 b0 b1 b2
    refine (HG.out _ (HM.out.below HQ1.out.1.1) (HR.out.below HQ1.out.1.1)).mono ?_
    rintro e w2 ⟨rfl, hb2⟩
    have HQ2 := Lib.hid (HQ1.out.below hb2)
    clear hb2 HQ1
    go_wp2_with fail
    refine (HAW.out _ (HK.out.below HQ2.out.1.1)).mono ?_
    rintro e w4 ⟨rfl, hb4⟩
    have HQ4 := Lib.hid (HQ2.out.below hb4)
    clear hb4
    go_wp2
    go_ret
    exact ⟨rfl, HQ4.out.1.1⟩

end Go.Proofs.YthheflgfbdcnlaaDoor
