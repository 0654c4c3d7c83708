/-
  The law XlateParts: for every map, schemas and message, in every world where the table of kinds reads as it is laid.
-/
import Derived.Test.YthheflgfbdcnlaaDoorXltLawV
import Derived.Test.YthheflgfbdcnlaaDoorPackMsg
namespace Go.Proofs.YthheflgfbdcnlaaDoor
open Go.RowKit

set_option maxRecDepth 100000 in
set_option maxHeartbeats 25600000 in
theorem xparts_row (X : Option Addr) (cM : Nat) (M : List PairT) (Y : Option Addr) (cR : Nat) (R : List Ru) (st v : Int) (A : Option Addr) (ca : Nat) (a : List Sp) (st' v' : Int) (A' : Option Addr) (cb : Nat) (b : List Sp) (m : ByteArray) (B : Option Addr) (cx : Nat) (l : List Item) (w : World) (hK : Kinds w) (hM : Prs w X M) (hlM : M.length ≤ maxLen) (hfM : Fit2 M) (hcM : M.length ≤ cM) (hR : Rls w Y R) (hlR : R.length ≤ maxLen) (hf3 : Fit3 R) (hA : Spl w A a) (hma : a.length ≤ maxLen) (hB : Spl w A' b) (hmb : b.length ≤ maxLen) (_ : m.size ≤ maxLen) (hI : Tlvs w B l) (_ : l.length ≤ maxLen) (hs : ∀ x ∈ l, x.2.size ≤ maxLen) :
    Calls Tryd.prog 4 #[.agg #[.slice X M.length cM, .slice Y R.length cR], .agg #[.int .i64 st, .int .i64 v, .slice A a.length ca, .int .i64 st', .int .i64 v', .slice A' b.length cb], .agg #[.string m, .slice B l.length cx]] w fun e w' => e = .returned (.bool true) ∧ Below w.heap.size w w' := by
  have HAW := Lib.hid (fun W h => xawake_any rchk_any rapp_any W h)
  have HG := Lib.hid (fun W h1 h2 => xlgreat_any X cM M Y cR R st v A a.length ca st' v' A' b.length cb W h1 h2 hlM hlR hfM hf3 hma hmb)
  have HGM := Lib.hid (fun W h => mgreat_any m B cx l W h hs)
  have HQ0 := Lib.hid (lm_new w X M.length cM Y R.length cR st v A a.length ca st' v' A' b.length cb m B l.length cx)
  have HK := Lib.hid hK
  have HM := Lib.hid hM
  have HR := Lib.hid hR
  have HA := Lib.hid hA
  have HB := Lib.hid hB
  have HI := Lib.hid hI
  cases hg : (xgreatB M R || decide (200 < a.length) || decide (200 < b.length))
  · simp only [Bool.or_eq_false_iff, decide_eq_false_iff_not] at hg
    obtain ⟨⟨hg1, hg2⟩, hg3⟩ := hg
    have hf4 := xgreat_four hg1 hf3
    have hgz : (xgreatB M R || decide (200 < a.length) || decide (200 < b.length)) = false := by rw [hg1, decide_eq_false hg2, decide_eq_false hg3]; rfl
    rw [hgz] at HG
    cases hgm : greatM m l
    · rw [hgm] at HGM
      have hl2 := (great_in hgm).2.1
      by_cases hl0 : l.length = 0
      · rw [hl0] at HQ0 HGM ⊢
        have HI : Hid (Tlvs w B l) := HI
        clear hl0 hK hM hR hA hB hI hlM hfM hcM hlR hf3 hma hmb hs hg1 hg2 hg3 hgz hf4 hgm hl2
        generalize M.length = n at *
        generalize R.length = nr at *
        generalize a.length = la at *
        generalize b.length = lb at *
        go_enter Tryd.func4, Tryd.ntmps4
        go_wp2_with fail
        generalize ((w.alloc (.cells #[.slice X n cM, .slice Y nr cR] 25)).alloc (.cells #[.int .i64 st, .int .i64 v, .slice A la ca, .int .i64 st', .int .i64 v', .slice A' lb cb] 29)).alloc (.cells #[.string m, .slice B 0 cx] 32) = U at *
        refine (HAW.out _ (HK.out.below HQ0.out.1.1)).mono ?_
        rintro e w1 ⟨rfl, hb1⟩
        have HQ1 := Lib.hid (HQ0.out.below hb1)
        clear hb1 HQ0
        obtain ⟨⟨m0, m1⟩, a0, a1, a2, b0, b1, b2⟩ := HQ1.out.1.cells
        go_wp2_with fail
        clear m0 m1 a0 a1 a2 b0 b1 b2
        refine (HG.out _ (HM.out.below HQ1.out.1.1) (HR.out.below HQ1.out.1.1)).mono ?_
        rintro e w2 ⟨rfl, hb2⟩
        have HQ2 := Lib.hid (HQ1.out.below hb2)
        clear hb2 HQ1
        obtain ⟨x0, x1, _, _⟩ := obj_cells HQ2.out.2
        go_wp2_with fail
        clear x0 x1
        refine (HGM.out _ (HI.out.below HQ2.out.1.1)).mono ?_
        rintro e w3 ⟨rfl, hb3⟩
        have HQ3 := Lib.hid (HQ2.out.below hb3)
        clear hb3 HQ2
        obtain ⟨x0, x1, _, _⟩ := obj_cells HQ3.out.2
        go_wp2_with fail
        clear x0 x1
        refine (HAW.out _ (HK.out.below HQ3.out.1.1)).mono ?_
        rintro e w4 ⟨rfl, hb4⟩
        have HQ4 := Lib.hid (HQ3.out.below hb4)
        clear hb4
        go_wp2
        go_ret
        exact ⟨rfl, HQ4.out.1.1⟩
      have HTR := Lib.hid (fun W k0 k1 k2 k3 k4 k5 => xtrans_any rchk_any rapp_any X cM M Y cR R st v A ca a st' v' A' cb b m B cx l W k0 k1 k2 k3 k4 k5 (by omega) (by omega) hlM hcM hlR hf4 (by omega) hs)
      have t0 : ((l.length : Int) == 0) = false := by rw [beq_eq_false_iff_ne]; omega
      rcases xt_cases (st := st) (v := v) (a := a) (st' := st') (v' := v') (b := b) (M := M) (R := R) (m := m) (l := l) with ⟨⟨k1, k2⟩, hk, hT⟩ | ⟨h1, h2, h3, h4⟩
      · rw [hT] at HTR
        have tk : (k1 == 0) = false := by simpa using hk
        clear hT hl0 hk hK hM hR hA hB hI hlM hfM hcM hlR hf3 hma hmb hs hg1 hg2 hg3 hgz hf4 hgm hl2
        generalize M.length = n at *
        generalize R.length = nr at *
        generalize a.length = la at *
        generalize b.length = lb at *
        generalize l.length = lx at *
        go_enter Tryd.func4, Tryd.ntmps4
        go_wp2_with fail
        generalize ((w.alloc (.cells #[.slice X n cM, .slice Y nr cR] 25)).alloc (.cells #[.int .i64 st, .int .i64 v, .slice A la ca, .int .i64 st', .int .i64 v', .slice A' lb cb] 29)).alloc (.cells #[.string m, .slice B lx cx] 32) = U at *
        refine (HAW.out _ (HK.out.below HQ0.out.1.1)).mono ?_
        rintro e w1 ⟨rfl, hb1⟩
        have HQ1 := Lib.hid (HQ0.out.below hb1)
        clear hb1 HQ0
        obtain ⟨⟨m0, m1⟩, a0, a1, a2, b0, b1, b2⟩ := HQ1.out.1.cells
        go_wp2_with fail
        clear m0 m1 a0 a1 a2 b0 b1 b2
        refine (HG.out _ (HM.out.below HQ1.out.1.1) (HR.out.below HQ1.out.1.1)).mono ?_
        rintro e w2 ⟨rfl, hb2⟩
        have HQ2 := Lib.hid (HQ1.out.below hb2)
        clear hb2 HQ1
        obtain ⟨x0, x1, _, _⟩ := obj_cells HQ2.out.2
        go_wp2_with fail
        clear x0 x1
        refine (HGM.out _ (HI.out.below HQ2.out.1.1)).mono ?_
        rintro e w3 ⟨rfl, hb3⟩
        have HQ3 := Lib.hid (HQ2.out.below hb3)
        clear hb3 HQ2
        obtain ⟨x0, x1, _, _⟩ := obj_cells HQ3.out.2
        obtain ⟨⟨m0, m1⟩, a0, a1, a2, b0, b1, b2⟩ := HQ3.out.1.cells
        go_wp2_with fail
        clear m0 m1 a0 a1 a2 b0 b1 b2 x0 x1
        refine (HTR.out _ (HK.out.below HQ3.out.1.1) (HM.out.below HQ3.out.1.1) (HR.out.below HQ3.out.1.1) (HA.out.below HQ3.out.1.1) (HB.out.below HQ3.out.1.1) (HI.out.below HQ3.out.1.1)).mono ?_
        rintro e w4 ⟨D, cd, rfl, _, hb4⟩
        have hbm := below_al w4 (.cells #[.string ⟨#[]⟩, .slice D 0 cd] 32)
        have hbf := below_al (w4.alloc (.cells #[.string ⟨#[]⟩, .slice D 0 cd] 32)) (.cells #[.int .i64 k1, .int .i64 k2] 38)
        have HB5 := Lib.hid (hbt HQ3.out.1.1 (hbt hb4 (hbt hbm hbf)))
        clear hb4 hbm hbf HQ3 HTR
        go_wp2
        go_ret
        exact ⟨rfl, HB5.out⟩
      · have h2z := msgN_told h2
        rw [xt_ok h1 h2 h3 h4] at HTR
        have HWO := Lib.hid (fun no W k => msg_some (mrwithout_any m B cx l no W k (by omega)))
        have HTO := Lib.hid (fun no E ce W k0 k1 k2 k3 k4 k5 => xtrans_any rchk_any rapp_any X cM M Y cR R st v A ca a st' v' A' cb b m E ce (outL no l) W k0 k1 k2 k3 k4 k5 (by omega) (by omega) hlM hcM hlR hf4 (Nat.le_trans (out_length no l) (by omega)) (fun x hx => hs x (out_mem hx).1))
        have HPT : Hid (∀ k, k < l.length → xltT st v a st' v' b M R m (outL (itemAt l k).1 l) = (appS M m, outL (xgone (itemAt l k).1 R) (xsort (xmade b R l ++ xcon R)), (0, 0))) := fun k hk => by
          have hmem : itemAt l k ∈ l := by rw [itemAt_get hk]; exact List.getElem_mem hk
          obtain ⟨p1, p2⟩ := xlt_parts h1 h2z h4 hmem
          rw [xt_ok h1 (by rw [valid_out h2z]) h3 p1, p2]
        have HVL := Lib.hid (xsort_length (xlt_valid h1 h2z h3 h4))
        have HWY := Lib.hid (fun g D cd W k => msg_some (mrwithout_any (appS M m) D cd (xsort (xmade b R l ++ xcon R)) g W k (by have := HVL.out; omega)))
        have HSM := Lib.hid (fun g E ce D cd W k1 k2 => mrsame_any (appS M m) E ce (outL g (xsort (xmade b R l ++ xcon R))) (appS M m) D cd (outL g (xsort (xmade b R l ++ xcon R))) W k1 k2 (Nat.le_trans (out_length _ _) (by have := HVL.out; omega)))
        simp only [sameM_refl] at HSM
        generalize xsort (xmade b R l ++ xcon R) = V at *
        generalize appS M m = mo at *
        have hR3 := (xgreat_in hg1).2.1
        clear hl0 h1 h2 h3 h4 h2z hK hM hR hA hB hI hlM hfM hcM hlR hf3 hma hmb hs hg1 hg2 hg3 hgz hf4 hgm
        generalize M.length = n at *
        generalize hrm : R.length = nr at *
        generalize a.length = la at *
        generalize b.length = lb at *
        generalize hln : l.length = lx at *
        generalize hvn : V.length = vn at *
        have HVN := Lib.hid hvn
        have HRM := Lib.hid hrm
        have HLN := Lib.hid hln
        clear hvn hrm hln
        go_enter Tryd.func4, Tryd.ntmps4
        go_wp2_with fail
        generalize ((w.alloc (.cells #[.slice X n cM, .slice Y nr cR] 25)).alloc (.cells #[.int .i64 st, .int .i64 v, .slice A la ca, .int .i64 st', .int .i64 v', .slice A' lb cb] 29)).alloc (.cells #[.string m, .slice B lx cx] 32) = U at *
        refine (HAW.out _ (HK.out.below HQ0.out.1.1)).mono ?_
        rintro e w1 ⟨rfl, hb1⟩
        have HQ1 := Lib.hid (HQ0.out.below hb1)
        clear hb1 HQ0
        obtain ⟨⟨m0, m1⟩, a0, a1, a2, b0, b1, b2⟩ := HQ1.out.1.cells
        go_wp2_with fail
        clear m0 m1 a0 a1 a2 b0 b1 b2
        refine (HG.out _ (HM.out.below HQ1.out.1.1) (HR.out.below HQ1.out.1.1)).mono ?_
        rintro e w2 ⟨rfl, hb2⟩
        have HQ2 := Lib.hid (HQ1.out.below hb2)
        clear hb2 HQ1
        obtain ⟨x0, x1, _, _⟩ := obj_cells HQ2.out.2
        go_wp2_with fail
        clear x0 x1
        refine (HGM.out _ (HI.out.below HQ2.out.1.1)).mono ?_
        rintro e w3 ⟨rfl, hb3⟩
        have HQ3 := Lib.hid (HQ2.out.below hb3)
        clear hb3 HQ2
        obtain ⟨x0, x1, _, _⟩ := obj_cells HQ3.out.2
        obtain ⟨⟨m0, m1⟩, a0, a1, a2, b0, b1, b2⟩ := HQ3.out.1.cells
        go_wp2_with fail
        clear m0 m1 a0 a1 a2 b0 b1 b2 x0 x1
        refine (HTR.out _ (HK.out.below HQ3.out.1.1) (HM.out.below HQ3.out.1.1) (HR.out.below HQ3.out.1.1) (HA.out.below HQ3.out.1.1) (HB.out.below HQ3.out.1.1) (HI.out.below HQ3.out.1.1)).mono ?_
        rintro e w4 ⟨D, cd, rfl, htd, hb4⟩
        dsimp only at htd ⊢
        rw [HVN.out]
        have hbm := below_al w4 (.cells #[.string mo, .slice D vn cd] 32)
        have hbf := below_al (w4.alloc (.cells #[.string mo, .slice D vn cd] 32)) (.cells #[.int .i64 0, .int .i64 0] 38)
        have HQ5 := Lib.hid (HQ3.out.below (hbt hb4 (hbt hbm hbf)))
        have HD5 := Lib.hid (htd.below (hbt hbm hbf))
        have HM5 : Hid (MBox ((w4.alloc (.cells #[.string mo, .slice D vn cd] 32)).alloc (.cells #[.int .i64 0, .int .i64 0] 38)) w4.heap.size mo D vn cd) := obj_below (heap_alloc_new _ _) hbf
        clear hb4 hbm hbf HQ3 HTR htd t0 HG HGM HAW
        obtain ⟨x0, x1, _, _⟩ := obj_cells HQ5.out.2
        go_wp2_with fail
        clear x0 x1
        generalize (w4.alloc (.cells #[.string mo, .slice D vn cd] 32)).alloc (.cells #[.int .i64 0, .int .i64 0] 38) = W5 at *
        generalize w4.heap.size = gy at *
        go_loopw [50] (fun i wr => ∃ q : Nat, q ≤ lx ∧ i = .int .i64 (q : Int) ∧ LM w X n cM Y nr cR st v A la ca st' v' A' lb cb m B lx cx wr ∧ MBox wr gy mo D vn cd ∧ Tlvs wr D V) (fun i _ => lx - (intOf i).toNat)
        case atStart => exact ⟨0, Nat.zero_le _, rfl, HQ5.out, HM5.out, HD5.out⟩
        case round =>
          obtain ⟨q, hq, rfl, hQ, hY, hD⟩ := hrel
          have HQ6 := Lib.hid hQ
          have HY6 := Lib.hid hY
          have HD6 := Lib.hid hD
          clear hQ hY hD HQ5 HM5 HD5
          by_cases hlt : q < lx
          · have hql : q < l.length := by have := HLN.out; omega
            obtain ⟨aB, no, s, rfl, hx, z0, z1⟩ := (HI.out.below HQ6.out.1.1).at_ hql
            have HPQ := Lib.hid (HPT.out q hlt)
            rw [hx] at HPQ
            have HTQ := Lib.hid (HTO.out no)
            rw [HPQ.out] at HTQ
            have HWQ := Lib.hid (HWO.out no)
            have HWG := Lib.hid (HWY.out (xgone no R))
            have HSG := Lib.hid (HSM.out (xgone no R))
            have HQ7 := Lib.hid (HQ6.out.below (below_al wr (.cells #[.int .i64 no, .string s] 45)))
            have HY7 := Lib.hid (HY6.out.below (below_al wr (.cells #[.int .i64 no, .string s] 45)))
            have HD7 := Lib.hid (HD6.out.below (below_al wr (.cells #[.int .i64 no, .string s] 45)))
            have HV7 : Hid ((wr.alloc (.cells #[.int .i64 no, .string s] 45)).heap[wr.heap.size]? = some (.cells #[.int .i64 no, .string s] 45)) := heap_alloc_new _ _
            clear hx hql HPQ
            generalize hLo : outL no l = Lo at *
            generalize Lo.length = nlo at *
            generalize hVo : outL (xgone no R) V = Vo at *
            clear hLo hVo
            go_upto_region 9 with fail
            clear z0 z1
            generalize wr.alloc (.cells #[.int .i64 no, .string s] 45) = W7 at *
            generalize wr.heap.size = g7 at *
            go_cut [11, 12] (fun s11 s12 wx => ∃ (p p' : Nat) (E : Option Addr) (ce : Nat), s11 = .pointer (some ⟨p, 0, none⟩) ∧ s12 = .pointer (some ⟨p', 0, none⟩) ∧ Below W7.heap.size W7 wx ∧ MBox wx p mo E Vo.length ce ∧ Tlvs wx E Vo ∧ wx.heap[p']? = some (.cells #[.int .i64 0, .int .i64 0] 38))
            case first =>
              refine wp_region_noPanic ?_
              refine wp_region_held_drew (S := (fun u => Below W7.heap.size W7 u)) (by kernel_rfl) ((Below.refl _ _).drew) (fun hS => ?_)
              refine gv 0 (v := ?_) (fun u hu => ?_) hS ?_
              rotate_left
              · ((obtain ⟨⟨m0, m1⟩, a0, a1, a2, b0, b1, b2⟩ := (HQ7.out.below hu).1.cells; obtain ⟨x0, x1, _, _⟩ := obj_cells (HQ7.out.below hu).2; obtain ⟨v0, v1, _, _⟩ := obj_cells (obj_below HV7.out hu)); go_simp; try (with_reducible rfl))
              try simp only [puts]
              refine gv 1 (v := ?_) (fun u hu => ?_) hS ?_
              rotate_left
              · ((obtain ⟨⟨m0, m1⟩, a0, a1, a2, b0, b1, b2⟩ := (HQ7.out.below hu).1.cells; obtain ⟨x0, x1, _, _⟩ := obj_cells (HQ7.out.below hu).2; obtain ⟨v0, v1, _, _⟩ := obj_cells (obj_below HV7.out hu)); go_simp; try (with_reducible rfl))
              try simp only [puts]
              refine gv 2 (v := ?_) (fun u hu => ?_) hS ?_
              rotate_left
              · ((obtain ⟨⟨m0, m1⟩, a0, a1, a2, b0, b1, b2⟩ := (HQ7.out.below hu).1.cells; obtain ⟨x0, x1, _, _⟩ := obj_cells (HQ7.out.below hu).2; obtain ⟨v0, v1, _, _⟩ := obj_cells (obj_below HV7.out hu)); go_simp; try (with_reducible rfl))
              try simp only [puts]
              refine gv 3 (v := ?_) (fun u hu => ?_) hS ?_
              rotate_left
              · ((obtain ⟨⟨m0, m1⟩, a0, a1, a2, b0, b1, b2⟩ := (HQ7.out.below hu).1.cells; obtain ⟨x0, x1, _, _⟩ := obj_cells (HQ7.out.below hu).2; obtain ⟨v0, v1, _, _⟩ := obj_cells (obj_below HV7.out hu)); go_simp; try (with_reducible rfl))
              try simp only [puts]
              refine gv 4 (v := ?_) (fun u hu => ?_) hS ?_
              rotate_left
              · ((obtain ⟨⟨m0, m1⟩, a0, a1, a2, b0, b1, b2⟩ := (HQ7.out.below hu).1.cells; obtain ⟨x0, x1, _, _⟩ := obj_cells (HQ7.out.below hu).2; obtain ⟨v0, v1, _, _⟩ := obj_cells (obj_below HV7.out hu)); go_simp; try (with_reducible rfl))
              try simp only [puts]
              refine gv 5 (v := ?_) (fun u hu => ?_) hS ?_
              rotate_left
              · ((obtain ⟨⟨m0, m1⟩, a0, a1, a2, b0, b1, b2⟩ := (HQ7.out.below hu).1.cells; obtain ⟨x0, x1, _, _⟩ := obj_cells (HQ7.out.below hu).2; obtain ⟨v0, v1, _, _⟩ := obj_cells (obj_below HV7.out hu)); go_simp; try (with_reducible rfl))
              try simp only [puts]
              refine gv 6 (v := ?_) (fun u hu => ?_) hS ?_
              rotate_left
              · ((obtain ⟨⟨m0, m1⟩, a0, a1, a2, b0, b1, b2⟩ := (HQ7.out.below hu).1.cells; obtain ⟨x0, x1, _, _⟩ := obj_cells (HQ7.out.below hu).2; obtain ⟨v0, v1, _, _⟩ := obj_cells (obj_below HV7.out hu)); go_simp; try (with_reducible rfl))
              try simp only [puts]
              refine gv 7 (v := ?_) (fun u hu => ?_) hS ?_
              rotate_left
              · ((obtain ⟨⟨m0, m1⟩, a0, a1, a2, b0, b1, b2⟩ := (HQ7.out.below hu).1.cells; obtain ⟨x0, x1, _, _⟩ := obj_cells (HQ7.out.below hu).2; obtain ⟨v0, v1, _, _⟩ := obj_cells (obj_below HV7.out hu)); go_simp; try (with_reducible rfl))
              try simp only [puts]
              refine wpAnyH_ready (rs := [8, 13, 14]) (by kernel_rfl) (by simp) (arm_some (i := 8) 11 #[.agg #[.string m, .slice (some aB) lx cx], .int .i64 no] rfl (by rfl) (HWQ.out _ (HI.out.below (HQ7.out.below hS).1.1)) ?_ ?_ (arm_alloc (i := 13) (.cells #[.string ⟨#[]⟩, .slice none 0 0] 32) rfl (by rfl) ?_ ?_ (arm_alloc (i := 14) (.cells #[.int .i64 0, .int .i64 0] 38) rfl (by rfl) ?_ ?_ AllReadyH.nil)))
              · (go_simp; try (with_reducible rfl))
              · intro v8 u' hT
                obtain ⟨A8, c8, rfl, ht8, hb⟩ := hT
                have hS' : (fun u => Below W7.heap.size W7 u) u' := hbt hS hb
                refine ⟨hS', ?_⟩
                clear hS hb
                have hS := hS'; clear hS'
                rename World => u
                try simp only [puts]
                refine wpAnyH_ready (rs := [9, 13, 14]) (by kernel_rfl) (by simp) (arm_some (i := 9) 8 #[.agg #[.slice X n cM, .slice Y nr cR], .agg #[.int .i64 st, .int .i64 v, .slice A la ca], .agg #[.int .i64 st', .int .i64 v', .slice A' lb cb], .agg #[.string m, .slice A8 nlo c8]] rfl (by rfl) ((HTQ.out A8 c8 _ (HK.out.below (HQ7.out.below hS).1.1) (HM.out.below (HQ7.out.below hS).1.1) (HR.out.below (HQ7.out.below hS).1.1) (HA.out.below (HQ7.out.below hS).1.1) (HB.out.below (HQ7.out.below hS).1.1) ht8).mono fun e w' (he : DecTo _ _ _ _) => decto_some he) ?_ ?_ (arm_alloc (i := 13) (.cells #[.string ⟨#[]⟩, .slice none 0 0] 32) rfl (by rfl) ?_ ?_ (arm_alloc (i := 14) (.cells #[.int .i64 0, .int .i64 0] 38) rfl (by rfl) ?_ ?_ AllReadyH.nil)))
                · (go_simp; try (with_reducible rfl))
                · intro v9 u' hT
                  obtain ⟨A9, c9, rfl, ht9, hb⟩ := hT
                  have hS' : (fun u => Below W7.heap.size W7 u) u' := hbt hS hb
                  refine ⟨hS', ?_⟩
                  replace ht8 := ht8.below hb
                  clear hS hb
                  have hS := hS'; clear hS'
                  rename World => u
                  try simp only [puts]
                  refine gv 10 (v := ?_) (fun u hu => ?_) hS ?_
                  rotate_left
                  · ((obtain ⟨⟨m0, m1⟩, a0, a1, a2, b0, b1, b2⟩ := (HQ7.out.below hu).1.cells; obtain ⟨x0, x1, _, _⟩ := obj_cells (HQ7.out.below hu).2; obtain ⟨v0, v1, _, _⟩ := obj_cells (obj_below HV7.out hu)); go_simp; try (with_reducible rfl))
                  try simp only [puts]
                  refine gv 11 (v := ?_) (fun u hu => ?_) hS ?_
                  rotate_left
                  · ((obtain ⟨⟨m0, m1⟩, a0, a1, a2, b0, b1, b2⟩ := (HQ7.out.below hu).1.cells; obtain ⟨x0, x1, _, _⟩ := obj_cells (HQ7.out.below hu).2; obtain ⟨v0, v1, _, _⟩ := obj_cells (obj_below HV7.out hu)); go_simp; try (with_reducible rfl))
                  try simp only [puts]
                  refine gv 12 (v := ?_) (fun u hu => ?_) hS ?_
                  rotate_left
                  · ((obtain ⟨⟨m0, m1⟩, a0, a1, a2, b0, b1, b2⟩ := (HQ7.out.below hu).1.cells; obtain ⟨x0, x1, _, _⟩ := obj_cells (HQ7.out.below hu).2; obtain ⟨v0, v1, _, _⟩ := obj_cells (obj_below HV7.out hu)); go_simp; try (with_reducible rfl))
                  try simp only [puts]
                  refine wpAnyH_ready (rs := [13, 14]) (by kernel_rfl) (by simp) (arm_alloc (i := 13) (.cells #[.string ⟨#[]⟩, .slice none 0 0] 32) rfl (by rfl) ?_ ?_ (arm_alloc (i := 14) (.cells #[.int .i64 0, .int .i64 0] 38) rfl (by rfl) ?_ ?_ AllReadyH.nil))
                  · (go_simp; try (with_reducible rfl))
                  · intro p13 u' hb ho13 hp13
                    replace hp13 := Nat.le_trans (hS.size) hp13
                    have hS' : (fun u => Below W7.heap.size W7 u) u' := hbt hS hb
                    refine ⟨hS', ?_⟩
                    replace ht8 := ht8.below hb
                    replace ht9 := ht9.below hb
                    clear hS hb
                    have hS := hS'; clear hS'
                    rename World => u
                    try simp only [puts]
                    refine wpAnyH_ready (rs := [14]) (by kernel_rfl) (by simp) (arm_alloc (i := 14) (.cells #[.int .i64 0, .int .i64 0] 38) rfl (by rfl) ?_ ?_ AllReadyH.nil)
                    · (go_simp; try (with_reducible rfl))
                    · intro p14 u' hb ho14 hp14
                      have ne13_14 : p13 ≠ p14 := by have := obj_lt ho13; omega
                      replace hp14 := Nat.le_trans (hS.size) hp14
                      have hS' : (fun u => Below W7.heap.size W7 u) u' := hbt hS hb
                      refine ⟨hS', ?_⟩
                      replace ho13 := obj_below ho13 hb
                      replace ht8 := ht8.below hb
                      replace ht9 := ht9.below hb
                      clear hS hb
                      have hS := hS'; clear hS'
                      rename World => u
                      try simp only [puts]
                      obtain ⟨d0, d1, f0, f1⟩ := obj_cells ho13
                      have k1 := obj_set2 ho13 (.string mo) (.slice A9 Vo.length c9)
                      have k2 := obj_set_other ho14 (Ne.symm ne13_14) (.string mo) (.slice A9 Vo.length c9)
                      have k3 : Below W7.heap.size W7 _ := below_set2 hS hp13 (.string mo) (.slice A9 Vo.length c9)
                      have k4 := vals_by_msg ht9 ho13 (.string mo) (.slice A9 Vo.length c9)
                      refine only (i := 15) rfl (by kernel_rfl) (by rfl) (fun K hK => ?_)
                      go_simp
                      refine hK.out _ _ k3 ?_
                      clear hK
                      try simp only [puts]
                      clear d0 d1 f0 f1 hS
                      generalize ((u.setCell _ _).setCell _ _) = u8 at *
                      obtain ⟨d0, d1, f0, f1⟩ := obj_cells k2
                      have k5 := obj_set_other k1 ne13_14 (.int .i64 0) (.int .i64 0)
                      have k6 := obj_set2 k2 (.int .i64 0) (.int .i64 0)
                      have k7 : Below W7.heap.size W7 _ := below_set2 k3 hp14 (.int .i64 0) (.int .i64 0)
                      have k8 := vals_by_fault k4 k2 (.int .i64 0) (.int .i64 0)
                      refine only (i := 16) rfl (by kernel_rfl) (by rfl) (fun K hK => ?_)
                      go_simp
                      refine hK.out _ _ k7 ?_
                      clear hK
                      try simp only [puts]
                      refine wpAnyH_done (by kernel_rfl) (NoPanic.normal ?_) _
                      go_wp2_with fail
                      go_meet
                      exact ⟨p13, p14, A9, c9, rfl, rfl, k7, k5, k8, k6⟩
                  · (go_simp; try (with_reducible rfl))
                  · intro p14 u' hb ho14 hp14
                    replace hp14 := Nat.le_trans (hS.size) hp14
                    have hS' : (fun u => Below W7.heap.size W7 u) u' := hbt hS hb
                    refine ⟨hS', ?_⟩
                    replace ht8 := ht8.below hb
                    replace ht9 := ht9.below hb
                    clear hS hb
                    have hS := hS'; clear hS'
                    rename World => u
                    try simp only [puts]
                    refine wpAnyH_ready (rs := [13]) (by kernel_rfl) (by simp) (arm_alloc (i := 13) (.cells #[.string ⟨#[]⟩, .slice none 0 0] 32) rfl (by rfl) ?_ ?_ AllReadyH.nil)
                    · (go_simp; try (with_reducible rfl))
                    · intro p13 u' hb ho13 hp13
                      have ne13_14 : p13 ≠ p14 := by have := obj_lt ho14; omega
                      replace hp13 := Nat.le_trans (hS.size) hp13
                      have hS' : (fun u => Below W7.heap.size W7 u) u' := hbt hS hb
                      refine ⟨hS', ?_⟩
                      replace ho14 := obj_below ho14 hb
                      replace ht8 := ht8.below hb
                      replace ht9 := ht9.below hb
                      clear hS hb
                      have hS := hS'; clear hS'
                      rename World => u
                      try simp only [puts]
                      obtain ⟨d0, d1, f0, f1⟩ := obj_cells ho13
                      have k1 := obj_set2 ho13 (.string mo) (.slice A9 Vo.length c9)
                      have k2 := obj_set_other ho14 (Ne.symm ne13_14) (.string mo) (.slice A9 Vo.length c9)
                      have k3 : Below W7.heap.size W7 _ := below_set2 hS hp13 (.string mo) (.slice A9 Vo.length c9)
                      have k4 := vals_by_msg ht9 ho13 (.string mo) (.slice A9 Vo.length c9)
                      refine only (i := 15) rfl (by kernel_rfl) (by rfl) (fun K hK => ?_)
                      go_simp
                      refine hK.out _ _ k3 ?_
                      clear hK
                      try simp only [puts]
                      clear d0 d1 f0 f1 hS
                      generalize ((u.setCell _ _).setCell _ _) = u8 at *
                      obtain ⟨d0, d1, f0, f1⟩ := obj_cells k2
                      have k5 := obj_set_other k1 ne13_14 (.int .i64 0) (.int .i64 0)
                      have k6 := obj_set2 k2 (.int .i64 0) (.int .i64 0)
                      have k7 : Below W7.heap.size W7 _ := below_set2 k3 hp14 (.int .i64 0) (.int .i64 0)
                      have k8 := vals_by_fault k4 k2 (.int .i64 0) (.int .i64 0)
                      refine only (i := 16) rfl (by kernel_rfl) (by rfl) (fun K hK => ?_)
                      go_simp
                      refine hK.out _ _ k7 ?_
                      clear hK
                      try simp only [puts]
                      refine wpAnyH_done (by kernel_rfl) (NoPanic.normal ?_) _
                      go_wp2_with fail
                      go_meet
                      exact ⟨p13, p14, A9, c9, rfl, rfl, k7, k5, k8, k6⟩
                · (go_simp; try (with_reducible rfl))
                · intro p13 u' hb ho13 hp13
                  replace hp13 := Nat.le_trans (hS.size) hp13
                  have hS' : (fun u => Below W7.heap.size W7 u) u' := hbt hS hb
                  refine ⟨hS', ?_⟩
                  replace ht8 := ht8.below hb
                  clear hS hb
                  have hS := hS'; clear hS'
                  rename World => u
                  try simp only [puts]
                  refine wpAnyH_ready (rs := [9, 14]) (by kernel_rfl) (by simp) (arm_some (i := 9) 8 #[.agg #[.slice X n cM, .slice Y nr cR], .agg #[.int .i64 st, .int .i64 v, .slice A la ca], .agg #[.int .i64 st', .int .i64 v', .slice A' lb cb], .agg #[.string m, .slice A8 nlo c8]] rfl (by rfl) ((HTQ.out A8 c8 _ (HK.out.below (HQ7.out.below hS).1.1) (HM.out.below (HQ7.out.below hS).1.1) (HR.out.below (HQ7.out.below hS).1.1) (HA.out.below (HQ7.out.below hS).1.1) (HB.out.below (HQ7.out.below hS).1.1) ht8).mono fun e w' (he : DecTo _ _ _ _) => decto_some he) ?_ ?_ (arm_alloc (i := 14) (.cells #[.int .i64 0, .int .i64 0] 38) rfl (by rfl) ?_ ?_ AllReadyH.nil))
                  · (go_simp; try (with_reducible rfl))
                  · intro v9 u' hT
                    obtain ⟨A9, c9, rfl, ht9, hb⟩ := hT
                    have hS' : (fun u => Below W7.heap.size W7 u) u' := hbt hS hb
                    refine ⟨hS', ?_⟩
                    replace ho13 := obj_below ho13 hb
                    replace ht8 := ht8.below hb
                    clear hS hb
                    have hS := hS'; clear hS'
                    rename World => u
                    try simp only [puts]
                    refine gv 10 (v := ?_) (fun u hu => ?_) hS ?_
                    rotate_left
                    · ((obtain ⟨⟨m0, m1⟩, a0, a1, a2, b0, b1, b2⟩ := (HQ7.out.below hu).1.cells; obtain ⟨x0, x1, _, _⟩ := obj_cells (HQ7.out.below hu).2; obtain ⟨v0, v1, _, _⟩ := obj_cells (obj_below HV7.out hu)); go_simp; try (with_reducible rfl))
                    try simp only [puts]
                    refine gv 11 (v := ?_) (fun u hu => ?_) hS ?_
                    rotate_left
                    · ((obtain ⟨⟨m0, m1⟩, a0, a1, a2, b0, b1, b2⟩ := (HQ7.out.below hu).1.cells; obtain ⟨x0, x1, _, _⟩ := obj_cells (HQ7.out.below hu).2; obtain ⟨v0, v1, _, _⟩ := obj_cells (obj_below HV7.out hu)); go_simp; try (with_reducible rfl))
                    try simp only [puts]
                    refine gv 12 (v := ?_) (fun u hu => ?_) hS ?_
                    rotate_left
                    · ((obtain ⟨⟨m0, m1⟩, a0, a1, a2, b0, b1, b2⟩ := (HQ7.out.below hu).1.cells; obtain ⟨x0, x1, _, _⟩ := obj_cells (HQ7.out.below hu).2; obtain ⟨v0, v1, _, _⟩ := obj_cells (obj_below HV7.out hu)); go_simp; try (with_reducible rfl))
                    try simp only [puts]
                    refine wpAnyH_ready (rs := [14]) (by kernel_rfl) (by simp) (arm_alloc (i := 14) (.cells #[.int .i64 0, .int .i64 0] 38) rfl (by rfl) ?_ ?_ AllReadyH.nil)
                    · (go_simp; try (with_reducible rfl))
                    · intro p14 u' hb ho14 hp14
                      have ne13_14 : p13 ≠ p14 := by have := obj_lt ho13; omega
                      replace hp14 := Nat.le_trans (hS.size) hp14
                      have hS' : (fun u => Below W7.heap.size W7 u) u' := hbt hS hb
                      refine ⟨hS', ?_⟩
                      replace ho13 := obj_below ho13 hb
                      replace ht8 := ht8.below hb
                      replace ht9 := ht9.below hb
                      clear hS hb
                      have hS := hS'; clear hS'
                      rename World => u
                      try simp only [puts]
                      obtain ⟨d0, d1, f0, f1⟩ := obj_cells ho13
                      have k1 := obj_set2 ho13 (.string mo) (.slice A9 Vo.length c9)
                      have k2 := obj_set_other ho14 (Ne.symm ne13_14) (.string mo) (.slice A9 Vo.length c9)
                      have k3 : Below W7.heap.size W7 _ := below_set2 hS hp13 (.string mo) (.slice A9 Vo.length c9)
                      have k4 := vals_by_msg ht9 ho13 (.string mo) (.slice A9 Vo.length c9)
                      refine only (i := 15) rfl (by kernel_rfl) (by rfl) (fun K hK => ?_)
                      go_simp
                      refine hK.out _ _ k3 ?_
                      clear hK
                      try simp only [puts]
                      clear d0 d1 f0 f1 hS
                      generalize ((u.setCell _ _).setCell _ _) = u8 at *
                      obtain ⟨d0, d1, f0, f1⟩ := obj_cells k2
                      have k5 := obj_set_other k1 ne13_14 (.int .i64 0) (.int .i64 0)
                      have k6 := obj_set2 k2 (.int .i64 0) (.int .i64 0)
                      have k7 : Below W7.heap.size W7 _ := below_set2 k3 hp14 (.int .i64 0) (.int .i64 0)
                      have k8 := vals_by_fault k4 k2 (.int .i64 0) (.int .i64 0)
                      refine only (i := 16) rfl (by kernel_rfl) (by rfl) (fun K hK => ?_)
                      go_simp
                      refine hK.out _ _ k7 ?_
                      clear hK
                      try simp only [puts]
                      refine wpAnyH_done (by kernel_rfl) (NoPanic.normal ?_) _
                      go_wp2_with fail
                      go_meet
                      exact ⟨p13, p14, A9, c9, rfl, rfl, k7, k5, k8, k6⟩
                  · (go_simp; try (with_reducible rfl))
                  · intro p14 u' hb ho14 hp14
                    have ne13_14 : p13 ≠ p14 := by have := obj_lt ho13; omega
                    replace hp14 := Nat.le_trans (hS.size) hp14
                    have hS' : (fun u => Below W7.heap.size W7 u) u' := hbt hS hb
                    refine ⟨hS', ?_⟩
                    replace ho13 := obj_below ho13 hb
                    replace ht8 := ht8.below hb
                    clear hS hb
                    have hS := hS'; clear hS'
                    rename World => u
                    try simp only [puts]
                    refine wpAnyH_ready (rs := [9]) (by kernel_rfl) (by simp) (arm_some (i := 9) 8 #[.agg #[.slice X n cM, .slice Y nr cR], .agg #[.int .i64 st, .int .i64 v, .slice A la ca], .agg #[.int .i64 st', .int .i64 v', .slice A' lb cb], .agg #[.string m, .slice A8 nlo c8]] rfl (by rfl) ((HTQ.out A8 c8 _ (HK.out.below (HQ7.out.below hS).1.1) (HM.out.below (HQ7.out.below hS).1.1) (HR.out.below (HQ7.out.below hS).1.1) (HA.out.below (HQ7.out.below hS).1.1) (HB.out.below (HQ7.out.below hS).1.1) ht8).mono fun e w' (he : DecTo _ _ _ _) => decto_some he) ?_ ?_ AllReadyH.nil)
                    · (go_simp; try (with_reducible rfl))
                    · intro v9 u' hT
                      obtain ⟨A9, c9, rfl, ht9, hb⟩ := hT
                      have hS' : (fun u => Below W7.heap.size W7 u) u' := hbt hS hb
                      refine ⟨hS', ?_⟩
                      replace ho13 := obj_below ho13 hb
                      replace ho14 := obj_below ho14 hb
                      replace ht8 := ht8.below hb
                      clear hS hb
                      have hS := hS'; clear hS'
                      rename World => u
                      try simp only [puts]
                      refine gv 10 (v := ?_) (fun u hu => ?_) hS ?_
                      rotate_left
                      · ((obtain ⟨⟨m0, m1⟩, a0, a1, a2, b0, b1, b2⟩ := (HQ7.out.below hu).1.cells; obtain ⟨x0, x1, _, _⟩ := obj_cells (HQ7.out.below hu).2; obtain ⟨v0, v1, _, _⟩ := obj_cells (obj_below HV7.out hu)); go_simp; try (with_reducible rfl))
                      try simp only [puts]
                      refine gv 11 (v := ?_) (fun u hu => ?_) hS ?_
                      rotate_left
                      · ((obtain ⟨⟨m0, m1⟩, a0, a1, a2, b0, b1, b2⟩ := (HQ7.out.below hu).1.cells; obtain ⟨x0, x1, _, _⟩ := obj_cells (HQ7.out.below hu).2; obtain ⟨v0, v1, _, _⟩ := obj_cells (obj_below HV7.out hu)); go_simp; try (with_reducible rfl))
                      try simp only [puts]
                      refine gv 12 (v := ?_) (fun u hu => ?_) hS ?_
                      rotate_left
                      · ((obtain ⟨⟨m0, m1⟩, a0, a1, a2, b0, b1, b2⟩ := (HQ7.out.below hu).1.cells; obtain ⟨x0, x1, _, _⟩ := obj_cells (HQ7.out.below hu).2; obtain ⟨v0, v1, _, _⟩ := obj_cells (obj_below HV7.out hu)); go_simp; try (with_reducible rfl))
                      try simp only [puts]
                      obtain ⟨d0, d1, f0, f1⟩ := obj_cells ho13
                      have k1 := obj_set2 ho13 (.string mo) (.slice A9 Vo.length c9)
                      have k2 := obj_set_other ho14 (Ne.symm ne13_14) (.string mo) (.slice A9 Vo.length c9)
                      have k3 : Below W7.heap.size W7 _ := below_set2 hS hp13 (.string mo) (.slice A9 Vo.length c9)
                      have k4 := vals_by_msg ht9 ho13 (.string mo) (.slice A9 Vo.length c9)
                      refine only (i := 15) rfl (by kernel_rfl) (by rfl) (fun K hK => ?_)
                      go_simp
                      refine hK.out _ _ k3 ?_
                      clear hK
                      try simp only [puts]
                      clear d0 d1 f0 f1 hS
                      generalize ((u.setCell _ _).setCell _ _) = u8 at *
                      obtain ⟨d0, d1, f0, f1⟩ := obj_cells k2
                      have k5 := obj_set_other k1 ne13_14 (.int .i64 0) (.int .i64 0)
                      have k6 := obj_set2 k2 (.int .i64 0) (.int .i64 0)
                      have k7 : Below W7.heap.size W7 _ := below_set2 k3 hp14 (.int .i64 0) (.int .i64 0)
                      have k8 := vals_by_fault k4 k2 (.int .i64 0) (.int .i64 0)
                      refine only (i := 16) rfl (by kernel_rfl) (by rfl) (fun K hK => ?_)
                      go_simp
                      refine hK.out _ _ k7 ?_
                      clear hK
                      try simp only [puts]
                      refine wpAnyH_done (by kernel_rfl) (NoPanic.normal ?_) _
                      go_wp2_with fail
                      go_meet
                      exact ⟨p13, p14, A9, c9, rfl, rfl, k7, k5, k8, k6⟩
                · (go_simp; try (with_reducible rfl))
                · intro p14 u' hb ho14 hp14
                  replace hp14 := Nat.le_trans (hS.size) hp14
                  have hS' : (fun u => Below W7.heap.size W7 u) u' := hbt hS hb
                  refine ⟨hS', ?_⟩
                  replace ht8 := ht8.below hb
                  clear hS hb
                  have hS := hS'; clear hS'
                  rename World => u
                  try simp only [puts]
                  refine wpAnyH_ready (rs := [9, 13]) (by kernel_rfl) (by simp) (arm_some (i := 9) 8 #[.agg #[.slice X n cM, .slice Y nr cR], .agg #[.int .i64 st, .int .i64 v, .slice A la ca], .agg #[.int .i64 st', .int .i64 v', .slice A' lb cb], .agg #[.string m, .slice A8 nlo c8]] rfl (by rfl) ((HTQ.out A8 c8 _ (HK.out.below (HQ7.out.below hS).1.1) (HM.out.below (HQ7.out.below hS).1.1) (HR.out.below (HQ7.out.below hS).1.1) (HA.out.below (HQ7.out.below hS).1.1) (HB.out.below (HQ7.out.below hS).1.1) ht8).mono fun e w' (he : DecTo _ _ _ _) => decto_some he) ?_ ?_ (arm_alloc (i := 13) (.cells #[.string ⟨#[]⟩, .slice none 0 0] 32) rfl (by rfl) ?_ ?_ AllReadyH.nil))
                  · (go_simp; try (with_reducible rfl))
                  · intro v9 u' hT
                    obtain ⟨A9, c9, rfl, ht9, hb⟩ := hT
                    have hS' : (fun u => Below W7.heap.size W7 u) u' := hbt hS hb
                    refine ⟨hS', ?_⟩
                    replace ho14 := obj_below ho14 hb
                    replace ht8 := ht8.below hb
                    clear hS hb
                    have hS := hS'; clear hS'
                    rename World => u
                    try simp only [puts]
                    refine gv 10 (v := ?_) (fun u hu => ?_) hS ?_
                    rotate_left
                    · ((obtain ⟨⟨m0, m1⟩, a0, a1, a2, b0, b1, b2⟩ := (HQ7.out.below hu).1.cells; obtain ⟨x0, x1, _, _⟩ := obj_cells (HQ7.out.below hu).2; obtain ⟨v0, v1, _, _⟩ := obj_cells (obj_below HV7.out hu)); go_simp; try (with_reducible rfl))
                    try simp only [puts]
                    refine gv 11 (v := ?_) (fun u hu => ?_) hS ?_
                    rotate_left
                    · ((obtain ⟨⟨m0, m1⟩, a0, a1, a2, b0, b1, b2⟩ := (HQ7.out.below hu).1.cells; obtain ⟨x0, x1, _, _⟩ := obj_cells (HQ7.out.below hu).2; obtain ⟨v0, v1, _, _⟩ := obj_cells (obj_below HV7.out hu)); go_simp; try (with_reducible rfl))
                    try simp only [puts]
                    refine gv 12 (v := ?_) (fun u hu => ?_) hS ?_
                    rotate_left
                    · ((obtain ⟨⟨m0, m1⟩, a0, a1, a2, b0, b1, b2⟩ := (HQ7.out.below hu).1.cells; obtain ⟨x0, x1, _, _⟩ := obj_cells (HQ7.out.below hu).2; obtain ⟨v0, v1, _, _⟩ := obj_cells (obj_below HV7.out hu)); go_simp; try (with_reducible rfl))
                    try simp only [puts]
                    refine wpAnyH_ready (rs := [13]) (by kernel_rfl) (by simp) (arm_alloc (i := 13) (.cells #[.string ⟨#[]⟩, .slice none 0 0] 32) rfl (by rfl) ?_ ?_ AllReadyH.nil)
                    · (go_simp; try (with_reducible rfl))
                    · intro p13 u' hb ho13 hp13
                      have ne13_14 : p13 ≠ p14 := by have := obj_lt ho14; omega
                      replace hp13 := Nat.le_trans (hS.size) hp13
                      have hS' : (fun u => Below W7.heap.size W7 u) u' := hbt hS hb
                      refine ⟨hS', ?_⟩
                      replace ho14 := obj_below ho14 hb
                      replace ht8 := ht8.below hb
                      replace ht9 := ht9.below hb
                      clear hS hb
                      have hS := hS'; clear hS'
                      rename World => u
                      try simp only [puts]
                      obtain ⟨d0, d1, f0, f1⟩ := obj_cells ho13
                      have k1 := obj_set2 ho13 (.string mo) (.slice A9 Vo.length c9)
                      have k2 := obj_set_other ho14 (Ne.symm ne13_14) (.string mo) (.slice A9 Vo.length c9)
                      have k3 : Below W7.heap.size W7 _ := below_set2 hS hp13 (.string mo) (.slice A9 Vo.length c9)
                      have k4 := vals_by_msg ht9 ho13 (.string mo) (.slice A9 Vo.length c9)
                      refine only (i := 15) rfl (by kernel_rfl) (by rfl) (fun K hK => ?_)
                      go_simp
                      refine hK.out _ _ k3 ?_
                      clear hK
                      try simp only [puts]
                      clear d0 d1 f0 f1 hS
                      generalize ((u.setCell _ _).setCell _ _) = u8 at *
                      obtain ⟨d0, d1, f0, f1⟩ := obj_cells k2
                      have k5 := obj_set_other k1 ne13_14 (.int .i64 0) (.int .i64 0)
                      have k6 := obj_set2 k2 (.int .i64 0) (.int .i64 0)
                      have k7 : Below W7.heap.size W7 _ := below_set2 k3 hp14 (.int .i64 0) (.int .i64 0)
                      have k8 := vals_by_fault k4 k2 (.int .i64 0) (.int .i64 0)
                      refine only (i := 16) rfl (by kernel_rfl) (by rfl) (fun K hK => ?_)
                      go_simp
                      refine hK.out _ _ k7 ?_
                      clear hK
                      try simp only [puts]
                      refine wpAnyH_done (by kernel_rfl) (NoPanic.normal ?_) _
                      go_wp2_with fail
                      go_meet
                      exact ⟨p13, p14, A9, c9, rfl, rfl, k7, k5, k8, k6⟩
                  · (go_simp; try (with_reducible rfl))
                  · intro p13 u' hb ho13 hp13
                    have ne13_14 : p13 ≠ p14 := by have := obj_lt ho14; omega
                    replace hp13 := Nat.le_trans (hS.size) hp13
                    have hS' : (fun u => Below W7.heap.size W7 u) u' := hbt hS hb
                    refine ⟨hS', ?_⟩
                    replace ho14 := obj_below ho14 hb
                    replace ht8 := ht8.below hb
                    clear hS hb
                    have hS := hS'; clear hS'
                    rename World => u
                    try simp only [puts]
                    refine wpAnyH_ready (rs := [9]) (by kernel_rfl) (by simp) (arm_some (i := 9) 8 #[.agg #[.slice X n cM, .slice Y nr cR], .agg #[.int .i64 st, .int .i64 v, .slice A la ca], .agg #[.int .i64 st', .int .i64 v', .slice A' lb cb], .agg #[.string m, .slice A8 nlo c8]] rfl (by rfl) ((HTQ.out A8 c8 _ (HK.out.below (HQ7.out.below hS).1.1) (HM.out.below (HQ7.out.below hS).1.1) (HR.out.below (HQ7.out.below hS).1.1) (HA.out.below (HQ7.out.below hS).1.1) (HB.out.below (HQ7.out.below hS).1.1) ht8).mono fun e w' (he : DecTo _ _ _ _) => decto_some he) ?_ ?_ AllReadyH.nil)
                    · (go_simp; try (with_reducible rfl))
                    · intro v9 u' hT
                      obtain ⟨A9, c9, rfl, ht9, hb⟩ := hT
                      have hS' : (fun u => Below W7.heap.size W7 u) u' := hbt hS hb
                      refine ⟨hS', ?_⟩
                      replace ho14 := obj_below ho14 hb
                      replace ho13 := obj_below ho13 hb
                      replace ht8 := ht8.below hb
                      clear hS hb
                      have hS := hS'; clear hS'
                      rename World => u
                      try simp only [puts]
                      refine gv 10 (v := ?_) (fun u hu => ?_) hS ?_
                      rotate_left
                      · ((obtain ⟨⟨m0, m1⟩, a0, a1, a2, b0, b1, b2⟩ := (HQ7.out.below hu).1.cells; obtain ⟨x0, x1, _, _⟩ := obj_cells (HQ7.out.below hu).2; obtain ⟨v0, v1, _, _⟩ := obj_cells (obj_below HV7.out hu)); go_simp; try (with_reducible rfl))
                      try simp only [puts]
                      refine gv 11 (v := ?_) (fun u hu => ?_) hS ?_
                      rotate_left
                      · ((obtain ⟨⟨m0, m1⟩, a0, a1, a2, b0, b1, b2⟩ := (HQ7.out.below hu).1.cells; obtain ⟨x0, x1, _, _⟩ := obj_cells (HQ7.out.below hu).2; obtain ⟨v0, v1, _, _⟩ := obj_cells (obj_below HV7.out hu)); go_simp; try (with_reducible rfl))
                      try simp only [puts]
                      refine gv 12 (v := ?_) (fun u hu => ?_) hS ?_
                      rotate_left
                      · ((obtain ⟨⟨m0, m1⟩, a0, a1, a2, b0, b1, b2⟩ := (HQ7.out.below hu).1.cells; obtain ⟨x0, x1, _, _⟩ := obj_cells (HQ7.out.below hu).2; obtain ⟨v0, v1, _, _⟩ := obj_cells (obj_below HV7.out hu)); go_simp; try (with_reducible rfl))
                      try simp only [puts]
                      obtain ⟨d0, d1, f0, f1⟩ := obj_cells ho13
                      have k1 := obj_set2 ho13 (.string mo) (.slice A9 Vo.length c9)
                      have k2 := obj_set_other ho14 (Ne.symm ne13_14) (.string mo) (.slice A9 Vo.length c9)
                      have k3 : Below W7.heap.size W7 _ := below_set2 hS hp13 (.string mo) (.slice A9 Vo.length c9)
                      have k4 := vals_by_msg ht9 ho13 (.string mo) (.slice A9 Vo.length c9)
                      refine only (i := 15) rfl (by kernel_rfl) (by rfl) (fun K hK => ?_)
                      go_simp
                      refine hK.out _ _ k3 ?_
                      clear hK
                      try simp only [puts]
                      clear d0 d1 f0 f1 hS
                      generalize ((u.setCell _ _).setCell _ _) = u8 at *
                      obtain ⟨d0, d1, f0, f1⟩ := obj_cells k2
                      have k5 := obj_set_other k1 ne13_14 (.int .i64 0) (.int .i64 0)
                      have k6 := obj_set2 k2 (.int .i64 0) (.int .i64 0)
                      have k7 : Below W7.heap.size W7 _ := below_set2 k3 hp14 (.int .i64 0) (.int .i64 0)
                      have k8 := vals_by_fault k4 k2 (.int .i64 0) (.int .i64 0)
                      refine only (i := 16) rfl (by kernel_rfl) (by rfl) (fun K hK => ?_)
                      go_simp
                      refine hK.out _ _ k7 ?_
                      clear hK
                      try simp only [puts]
                      refine wpAnyH_done (by kernel_rfl) (NoPanic.normal ?_) _
                      go_wp2_with fail
                      go_meet
                      exact ⟨p13, p14, A9, c9, rfl, rfl, k7, k5, k8, k6⟩
              · (go_simp; try (with_reducible rfl))
              · intro p13 u' hb ho13 hp13
                replace hp13 := Nat.le_trans (hS.size) hp13
                have hS' : (fun u => Below W7.heap.size W7 u) u' := hbt hS hb
                refine ⟨hS', ?_⟩
                clear hS hb
                have hS := hS'; clear hS'
                rename World => u
                try simp only [puts]
                refine wpAnyH_ready (rs := [8, 14]) (by kernel_rfl) (by simp) (arm_some (i := 8) 11 #[.agg #[.string m, .slice (some aB) lx cx], .int .i64 no] rfl (by rfl) (HWQ.out _ (HI.out.below (HQ7.out.below hS).1.1)) ?_ ?_ (arm_alloc (i := 14) (.cells #[.int .i64 0, .int .i64 0] 38) rfl (by rfl) ?_ ?_ AllReadyH.nil))
                · (go_simp; try (with_reducible rfl))
                · intro v8 u' hT
                  obtain ⟨A8, c8, rfl, ht8, hb⟩ := hT
                  have hS' : (fun u => Below W7.heap.size W7 u) u' := hbt hS hb
                  refine ⟨hS', ?_⟩
                  replace ho13 := obj_below ho13 hb
                  clear hS hb
                  have hS := hS'; clear hS'
                  rename World => u
                  try simp only [puts]
                  refine wpAnyH_ready (rs := [9, 14]) (by kernel_rfl) (by simp) (arm_some (i := 9) 8 #[.agg #[.slice X n cM, .slice Y nr cR], .agg #[.int .i64 st, .int .i64 v, .slice A la ca], .agg #[.int .i64 st', .int .i64 v', .slice A' lb cb], .agg #[.string m, .slice A8 nlo c8]] rfl (by rfl) ((HTQ.out A8 c8 _ (HK.out.below (HQ7.out.below hS).1.1) (HM.out.below (HQ7.out.below hS).1.1) (HR.out.below (HQ7.out.below hS).1.1) (HA.out.below (HQ7.out.below hS).1.1) (HB.out.below (HQ7.out.below hS).1.1) ht8).mono fun e w' (he : DecTo _ _ _ _) => decto_some he) ?_ ?_ (arm_alloc (i := 14) (.cells #[.int .i64 0, .int .i64 0] 38) rfl (by rfl) ?_ ?_ AllReadyH.nil))
                  · (go_simp; try (with_reducible rfl))
                  · intro v9 u' hT
                    obtain ⟨A9, c9, rfl, ht9, hb⟩ := hT
                    have hS' : (fun u => Below W7.heap.size W7 u) u' := hbt hS hb
                    refine ⟨hS', ?_⟩
                    replace ho13 := obj_below ho13 hb
                    replace ht8 := ht8.below hb
                    clear hS hb
                    have hS := hS'; clear hS'
                    rename World => u
                    try simp only [puts]
                    refine gv 10 (v := ?_) (fun u hu => ?_) hS ?_
                    rotate_left
                    · ((obtain ⟨⟨m0, m1⟩, a0, a1, a2, b0, b1, b2⟩ := (HQ7.out.below hu).1.cells; obtain ⟨x0, x1, _, _⟩ := obj_cells (HQ7.out.below hu).2; obtain ⟨v0, v1, _, _⟩ := obj_cells (obj_below HV7.out hu)); go_simp; try (with_reducible rfl))
                    try simp only [puts]
                    refine gv 11 (v := ?_) (fun u hu => ?_) hS ?_
                    rotate_left
                    · ((obtain ⟨⟨m0, m1⟩, a0, a1, a2, b0, b1, b2⟩ := (HQ7.out.below hu).1.cells; obtain ⟨x0, x1, _, _⟩ := obj_cells (HQ7.out.below hu).2; obtain ⟨v0, v1, _, _⟩ := obj_cells (obj_below HV7.out hu)); go_simp; try (with_reducible rfl))
                    try simp only [puts]
                    refine gv 12 (v := ?_) (fun u hu => ?_) hS ?_
                    rotate_left
                    · ((obtain ⟨⟨m0, m1⟩, a0, a1, a2, b0, b1, b2⟩ := (HQ7.out.below hu).1.cells; obtain ⟨x0, x1, _, _⟩ := obj_cells (HQ7.out.below hu).2; obtain ⟨v0, v1, _, _⟩ := obj_cells (obj_below HV7.out hu)); go_simp; try (with_reducible rfl))
                    try simp only [puts]
                    refine wpAnyH_ready (rs := [14]) (by kernel_rfl) (by simp) (arm_alloc (i := 14) (.cells #[.int .i64 0, .int .i64 0] 38) rfl (by rfl) ?_ ?_ AllReadyH.nil)
                    · (go_simp; try (with_reducible rfl))
                    · intro p14 u' hb ho14 hp14
                      have ne13_14 : p13 ≠ p14 := by have := obj_lt ho13; omega
                      replace hp14 := Nat.le_trans (hS.size) hp14
                      have hS' : (fun u => Below W7.heap.size W7 u) u' := hbt hS hb
                      refine ⟨hS', ?_⟩
                      replace ho13 := obj_below ho13 hb
                      replace ht8 := ht8.below hb
                      replace ht9 := ht9.below hb
                      clear hS hb
                      have hS := hS'; clear hS'
                      rename World => u
                      try simp only [puts]
                      obtain ⟨d0, d1, f0, f1⟩ := obj_cells ho13
                      have k1 := obj_set2 ho13 (.string mo) (.slice A9 Vo.length c9)
                      have k2 := obj_set_other ho14 (Ne.symm ne13_14) (.string mo) (.slice A9 Vo.length c9)
                      have k3 : Below W7.heap.size W7 _ := below_set2 hS hp13 (.string mo) (.slice A9 Vo.length c9)
                      have k4 := vals_by_msg ht9 ho13 (.string mo) (.slice A9 Vo.length c9)
                      refine only (i := 15) rfl (by kernel_rfl) (by rfl) (fun K hK => ?_)
                      go_simp
                      refine hK.out _ _ k3 ?_
                      clear hK
                      try simp only [puts]
                      clear d0 d1 f0 f1 hS
                      generalize ((u.setCell _ _).setCell _ _) = u8 at *
                      obtain ⟨d0, d1, f0, f1⟩ := obj_cells k2
                      have k5 := obj_set_other k1 ne13_14 (.int .i64 0) (.int .i64 0)
                      have k6 := obj_set2 k2 (.int .i64 0) (.int .i64 0)
                      have k7 : Below W7.heap.size W7 _ := below_set2 k3 hp14 (.int .i64 0) (.int .i64 0)
                      have k8 := vals_by_fault k4 k2 (.int .i64 0) (.int .i64 0)
                      refine only (i := 16) rfl (by kernel_rfl) (by rfl) (fun K hK => ?_)
                      go_simp
                      refine hK.out _ _ k7 ?_
                      clear hK
                      try simp only [puts]
                      refine wpAnyH_done (by kernel_rfl) (NoPanic.normal ?_) _
                      go_wp2_with fail
                      go_meet
                      exact ⟨p13, p14, A9, c9, rfl, rfl, k7, k5, k8, k6⟩
                  · (go_simp; try (with_reducible rfl))
                  · intro p14 u' hb ho14 hp14
                    have ne13_14 : p13 ≠ p14 := by have := obj_lt ho13; omega
                    replace hp14 := Nat.le_trans (hS.size) hp14
                    have hS' : (fun u => Below W7.heap.size W7 u) u' := hbt hS hb
                    refine ⟨hS', ?_⟩
                    replace ho13 := obj_below ho13 hb
                    replace ht8 := ht8.below hb
                    clear hS hb
                    have hS := hS'; clear hS'
                    rename World => u
                    try simp only [puts]
                    refine wpAnyH_ready (rs := [9]) (by kernel_rfl) (by simp) (arm_some (i := 9) 8 #[.agg #[.slice X n cM, .slice Y nr cR], .agg #[.int .i64 st, .int .i64 v, .slice A la ca], .agg #[.int .i64 st', .int .i64 v', .slice A' lb cb], .agg #[.string m, .slice A8 nlo c8]] rfl (by rfl) ((HTQ.out A8 c8 _ (HK.out.below (HQ7.out.below hS).1.1) (HM.out.below (HQ7.out.below hS).1.1) (HR.out.below (HQ7.out.below hS).1.1) (HA.out.below (HQ7.out.below hS).1.1) (HB.out.below (HQ7.out.below hS).1.1) ht8).mono fun e w' (he : DecTo _ _ _ _) => decto_some he) ?_ ?_ AllReadyH.nil)
                    · (go_simp; try (with_reducible rfl))
                    · intro v9 u' hT
                      obtain ⟨A9, c9, rfl, ht9, hb⟩ := hT
                      have hS' : (fun u => Below W7.heap.size W7 u) u' := hbt hS hb
                      refine ⟨hS', ?_⟩
                      replace ho13 := obj_below ho13 hb
                      replace ho14 := obj_below ho14 hb
                      replace ht8 := ht8.below hb
                      clear hS hb
                      have hS := hS'; clear hS'
                      rename World => u
                      try simp only [puts]
                      refine gv 10 (v := ?_) (fun u hu => ?_) hS ?_
                      rotate_left
                      · ((obtain ⟨⟨m0, m1⟩, a0, a1, a2, b0, b1, b2⟩ := (HQ7.out.below hu).1.cells; obtain ⟨x0, x1, _, _⟩ := obj_cells (HQ7.out.below hu).2; obtain ⟨v0, v1, _, _⟩ := obj_cells (obj_below HV7.out hu)); go_simp; try (with_reducible rfl))
                      try simp only [puts]
                      refine gv 11 (v := ?_) (fun u hu => ?_) hS ?_
                      rotate_left
                      · ((obtain ⟨⟨m0, m1⟩, a0, a1, a2, b0, b1, b2⟩ := (HQ7.out.below hu).1.cells; obtain ⟨x0, x1, _, _⟩ := obj_cells (HQ7.out.below hu).2; obtain ⟨v0, v1, _, _⟩ := obj_cells (obj_below HV7.out hu)); go_simp; try (with_reducible rfl))
                      try simp only [puts]
                      refine gv 12 (v := ?_) (fun u hu => ?_) hS ?_
                      rotate_left
                      · ((obtain ⟨⟨m0, m1⟩, a0, a1, a2, b0, b1, b2⟩ := (HQ7.out.below hu).1.cells; obtain ⟨x0, x1, _, _⟩ := obj_cells (HQ7.out.below hu).2; obtain ⟨v0, v1, _, _⟩ := obj_cells (obj_below HV7.out hu)); go_simp; try (with_reducible rfl))
                      try simp only [puts]
                      obtain ⟨d0, d1, f0, f1⟩ := obj_cells ho13
                      have k1 := obj_set2 ho13 (.string mo) (.slice A9 Vo.length c9)
                      have k2 := obj_set_other ho14 (Ne.symm ne13_14) (.string mo) (.slice A9 Vo.length c9)
                      have k3 : Below W7.heap.size W7 _ := below_set2 hS hp13 (.string mo) (.slice A9 Vo.length c9)
                      have k4 := vals_by_msg ht9 ho13 (.string mo) (.slice A9 Vo.length c9)
                      refine only (i := 15) rfl (by kernel_rfl) (by rfl) (fun K hK => ?_)
                      go_simp
                      refine hK.out _ _ k3 ?_
                      clear hK
                      try simp only [puts]
                      clear d0 d1 f0 f1 hS
                      generalize ((u.setCell _ _).setCell _ _) = u8 at *
                      obtain ⟨d0, d1, f0, f1⟩ := obj_cells k2
                      have k5 := obj_set_other k1 ne13_14 (.int .i64 0) (.int .i64 0)
                      have k6 := obj_set2 k2 (.int .i64 0) (.int .i64 0)
                      have k7 : Below W7.heap.size W7 _ := below_set2 k3 hp14 (.int .i64 0) (.int .i64 0)
                      have k8 := vals_by_fault k4 k2 (.int .i64 0) (.int .i64 0)
                      refine only (i := 16) rfl (by kernel_rfl) (by rfl) (fun K hK => ?_)
                      go_simp
                      refine hK.out _ _ k7 ?_
                      clear hK
                      try simp only [puts]
                      refine wpAnyH_done (by kernel_rfl) (NoPanic.normal ?_) _
                      go_wp2_with fail
                      go_meet
                      exact ⟨p13, p14, A9, c9, rfl, rfl, k7, k5, k8, k6⟩
                · (go_simp; try (with_reducible rfl))
                · intro p14 u' hb ho14 hp14
                  have ne13_14 : p13 ≠ p14 := by have := obj_lt ho13; omega
                  replace hp14 := Nat.le_trans (hS.size) hp14
                  have hS' : (fun u => Below W7.heap.size W7 u) u' := hbt hS hb
                  refine ⟨hS', ?_⟩
                  replace ho13 := obj_below ho13 hb
                  clear hS hb
                  have hS := hS'; clear hS'
                  rename World => u
                  try simp only [puts]
                  refine wpAnyH_ready (rs := [8]) (by kernel_rfl) (by simp) (arm_some (i := 8) 11 #[.agg #[.string m, .slice (some aB) lx cx], .int .i64 no] rfl (by rfl) (HWQ.out _ (HI.out.below (HQ7.out.below hS).1.1)) ?_ ?_ AllReadyH.nil)
                  · (go_simp; try (with_reducible rfl))
                  · intro v8 u' hT
                    obtain ⟨A8, c8, rfl, ht8, hb⟩ := hT
                    have hS' : (fun u => Below W7.heap.size W7 u) u' := hbt hS hb
                    refine ⟨hS', ?_⟩
                    replace ho13 := obj_below ho13 hb
                    replace ho14 := obj_below ho14 hb
                    clear hS hb
                    have hS := hS'; clear hS'
                    rename World => u
                    try simp only [puts]
                    refine wpAnyH_ready (rs := [9]) (by kernel_rfl) (by simp) (arm_some (i := 9) 8 #[.agg #[.slice X n cM, .slice Y nr cR], .agg #[.int .i64 st, .int .i64 v, .slice A la ca], .agg #[.int .i64 st', .int .i64 v', .slice A' lb cb], .agg #[.string m, .slice A8 nlo c8]] rfl (by rfl) ((HTQ.out A8 c8 _ (HK.out.below (HQ7.out.below hS).1.1) (HM.out.below (HQ7.out.below hS).1.1) (HR.out.below (HQ7.out.below hS).1.1) (HA.out.below (HQ7.out.below hS).1.1) (HB.out.below (HQ7.out.below hS).1.1) ht8).mono fun e w' (he : DecTo _ _ _ _) => decto_some he) ?_ ?_ AllReadyH.nil)
                    · (go_simp; try (with_reducible rfl))
                    · intro v9 u' hT
                      obtain ⟨A9, c9, rfl, ht9, hb⟩ := hT
                      have hS' : (fun u => Below W7.heap.size W7 u) u' := hbt hS hb
                      refine ⟨hS', ?_⟩
                      replace ho13 := obj_below ho13 hb
                      replace ho14 := obj_below ho14 hb
                      replace ht8 := ht8.below hb
                      clear hS hb
                      have hS := hS'; clear hS'
                      rename World => u
                      try simp only [puts]
                      refine gv 10 (v := ?_) (fun u hu => ?_) hS ?_
                      rotate_left
                      · ((obtain ⟨⟨m0, m1⟩, a0, a1, a2, b0, b1, b2⟩ := (HQ7.out.below hu).1.cells; obtain ⟨x0, x1, _, _⟩ := obj_cells (HQ7.out.below hu).2; obtain ⟨v0, v1, _, _⟩ := obj_cells (obj_below HV7.out hu)); go_simp; try (with_reducible rfl))
                      try simp only [puts]
                      refine gv 11 (v := ?_) (fun u hu => ?_) hS ?_
                      rotate_left
                      · ((obtain ⟨⟨m0, m1⟩, a0, a1, a2, b0, b1, b2⟩ := (HQ7.out.below hu).1.cells; obtain ⟨x0, x1, _, _⟩ := obj_cells (HQ7.out.below hu).2; obtain ⟨v0, v1, _, _⟩ := obj_cells (obj_below HV7.out hu)); go_simp; try (with_reducible rfl))
                      try simp only [puts]
                      refine gv 12 (v := ?_) (fun u hu => ?_) hS ?_
                      rotate_left
                      · ((obtain ⟨⟨m0, m1⟩, a0, a1, a2, b0, b1, b2⟩ := (HQ7.out.below hu).1.cells; obtain ⟨x0, x1, _, _⟩ := obj_cells (HQ7.out.below hu).2; obtain ⟨v0, v1, _, _⟩ := obj_cells (obj_below HV7.out hu)); go_simp; try (with_reducible rfl))
                      try simp only [puts]
                      obtain ⟨d0, d1, f0, f1⟩ := obj_cells ho13
                      have k1 := obj_set2 ho13 (.string mo) (.slice A9 Vo.length c9)
                      have k2 := obj_set_other ho14 (Ne.symm ne13_14) (.string mo) (.slice A9 Vo.length c9)
                      have k3 : Below W7.heap.size W7 _ := below_set2 hS hp13 (.string mo) (.slice A9 Vo.length c9)
                      have k4 := vals_by_msg ht9 ho13 (.string mo) (.slice A9 Vo.length c9)
                      refine only (i := 15) rfl (by kernel_rfl) (by rfl) (fun K hK => ?_)
                      go_simp
                      refine hK.out _ _ k3 ?_
                      clear hK
                      try simp only [puts]
                      clear d0 d1 f0 f1 hS
                      generalize ((u.setCell _ _).setCell _ _) = u8 at *
                      obtain ⟨d0, d1, f0, f1⟩ := obj_cells k2
                      have k5 := obj_set_other k1 ne13_14 (.int .i64 0) (.int .i64 0)
                      have k6 := obj_set2 k2 (.int .i64 0) (.int .i64 0)
                      have k7 : Below W7.heap.size W7 _ := below_set2 k3 hp14 (.int .i64 0) (.int .i64 0)
                      have k8 := vals_by_fault k4 k2 (.int .i64 0) (.int .i64 0)
                      refine only (i := 16) rfl (by kernel_rfl) (by rfl) (fun K hK => ?_)
                      go_simp
                      refine hK.out _ _ k7 ?_
                      clear hK
                      try simp only [puts]
                      refine wpAnyH_done (by kernel_rfl) (NoPanic.normal ?_) _
                      go_wp2_with fail
                      go_meet
                      exact ⟨p13, p14, A9, c9, rfl, rfl, k7, k5, k8, k6⟩
              · (go_simp; try (with_reducible rfl))
              · intro p14 u' hb ho14 hp14
                replace hp14 := Nat.le_trans (hS.size) hp14
                have hS' : (fun u => Below W7.heap.size W7 u) u' := hbt hS hb
                refine ⟨hS', ?_⟩
                clear hS hb
                have hS := hS'; clear hS'
                rename World => u
                try simp only [puts]
                refine wpAnyH_ready (rs := [8, 13]) (by kernel_rfl) (by simp) (arm_some (i := 8) 11 #[.agg #[.string m, .slice (some aB) lx cx], .int .i64 no] rfl (by rfl) (HWQ.out _ (HI.out.below (HQ7.out.below hS).1.1)) ?_ ?_ (arm_alloc (i := 13) (.cells #[.string ⟨#[]⟩, .slice none 0 0] 32) rfl (by rfl) ?_ ?_ AllReadyH.nil))
                · (go_simp; try (with_reducible rfl))
                · intro v8 u' hT
                  obtain ⟨A8, c8, rfl, ht8, hb⟩ := hT
                  have hS' : (fun u => Below W7.heap.size W7 u) u' := hbt hS hb
                  refine ⟨hS', ?_⟩
                  replace ho14 := obj_below ho14 hb
                  clear hS hb
                  have hS := hS'; clear hS'
                  rename World => u
                  try simp only [puts]
                  refine wpAnyH_ready (rs := [9, 13]) (by kernel_rfl) (by simp) (arm_some (i := 9) 8 #[.agg #[.slice X n cM, .slice Y nr cR], .agg #[.int .i64 st, .int .i64 v, .slice A la ca], .agg #[.int .i64 st', .int .i64 v', .slice A' lb cb], .agg #[.string m, .slice A8 nlo c8]] rfl (by rfl) ((HTQ.out A8 c8 _ (HK.out.below (HQ7.out.below hS).1.1) (HM.out.below (HQ7.out.below hS).1.1) (HR.out.below (HQ7.out.below hS).1.1) (HA.out.below (HQ7.out.below hS).1.1) (HB.out.below (HQ7.out.below hS).1.1) ht8).mono fun e w' (he : DecTo _ _ _ _) => decto_some he) ?_ ?_ (arm_alloc (i := 13) (.cells #[.string ⟨#[]⟩, .slice none 0 0] 32) rfl (by rfl) ?_ ?_ AllReadyH.nil))
                  · (go_simp; try (with_reducible rfl))
                  · intro v9 u' hT
                    obtain ⟨A9, c9, rfl, ht9, hb⟩ := hT
                    have hS' : (fun u => Below W7.heap.size W7 u) u' := hbt hS hb
                    refine ⟨hS', ?_⟩
                    replace ho14 := obj_below ho14 hb
                    replace ht8 := ht8.below hb
                    clear hS hb
                    have hS := hS'; clear hS'
                    rename World => u
                    try simp only [puts]
                    refine gv 10 (v := ?_) (fun u hu => ?_) hS ?_
                    rotate_left
                    · ((obtain ⟨⟨m0, m1⟩, a0, a1, a2, b0, b1, b2⟩ := (HQ7.out.below hu).1.cells; obtain ⟨x0, x1, _, _⟩ := obj_cells (HQ7.out.below hu).2; obtain ⟨v0, v1, _, _⟩ := obj_cells (obj_below HV7.out hu)); go_simp; try (with_reducible rfl))
                    try simp only [puts]
                    refine gv 11 (v := ?_) (fun u hu => ?_) hS ?_
                    rotate_left
                    · ((obtain ⟨⟨m0, m1⟩, a0, a1, a2, b0, b1, b2⟩ := (HQ7.out.below hu).1.cells; obtain ⟨x0, x1, _, _⟩ := obj_cells (HQ7.out.below hu).2; obtain ⟨v0, v1, _, _⟩ := obj_cells (obj_below HV7.out hu)); go_simp; try (with_reducible rfl))
                    try simp only [puts]
                    refine gv 12 (v := ?_) (fun u hu => ?_) hS ?_
                    rotate_left
                    · ((obtain ⟨⟨m0, m1⟩, a0, a1, a2, b0, b1, b2⟩ := (HQ7.out.below hu).1.cells; obtain ⟨x0, x1, _, _⟩ := obj_cells (HQ7.out.below hu).2; obtain ⟨v0, v1, _, _⟩ := obj_cells (obj_below HV7.out hu)); go_simp; try (with_reducible rfl))
                    try simp only [puts]
                    refine wpAnyH_ready (rs := [13]) (by kernel_rfl) (by simp) (arm_alloc (i := 13) (.cells #[.string ⟨#[]⟩, .slice none 0 0] 32) rfl (by rfl) ?_ ?_ AllReadyH.nil)
                    · (go_simp; try (with_reducible rfl))
                    · intro p13 u' hb ho13 hp13
                      have ne13_14 : p13 ≠ p14 := by have := obj_lt ho14; omega
                      replace hp13 := Nat.le_trans (hS.size) hp13
                      have hS' : (fun u => Below W7.heap.size W7 u) u' := hbt hS hb
                      refine ⟨hS', ?_⟩
                      replace ho14 := obj_below ho14 hb
                      replace ht8 := ht8.below hb
                      replace ht9 := ht9.below hb
                      clear hS hb
                      have hS := hS'; clear hS'
                      rename World => u
                      try simp only [puts]
                      obtain ⟨d0, d1, f0, f1⟩ := obj_cells ho13
                      have k1 := obj_set2 ho13 (.string mo) (.slice A9 Vo.length c9)
                      have k2 := obj_set_other ho14 (Ne.symm ne13_14) (.string mo) (.slice A9 Vo.length c9)
                      have k3 : Below W7.heap.size W7 _ := below_set2 hS hp13 (.string mo) (.slice A9 Vo.length c9)
                      have k4 := vals_by_msg ht9 ho13 (.string mo) (.slice A9 Vo.length c9)
                      refine only (i := 15) rfl (by kernel_rfl) (by rfl) (fun K hK => ?_)
                      go_simp
                      refine hK.out _ _ k3 ?_
                      clear hK
                      try simp only [puts]
                      clear d0 d1 f0 f1 hS
                      generalize ((u.setCell _ _).setCell _ _) = u8 at *
                      obtain ⟨d0, d1, f0, f1⟩ := obj_cells k2
                      have k5 := obj_set_other k1 ne13_14 (.int .i64 0) (.int .i64 0)
                      have k6 := obj_set2 k2 (.int .i64 0) (.int .i64 0)
                      have k7 : Below W7.heap.size W7 _ := below_set2 k3 hp14 (.int .i64 0) (.int .i64 0)
                      have k8 := vals_by_fault k4 k2 (.int .i64 0) (.int .i64 0)
                      refine only (i := 16) rfl (by kernel_rfl) (by rfl) (fun K hK => ?_)
                      go_simp
                      refine hK.out _ _ k7 ?_
                      clear hK
                      try simp only [puts]
                      refine wpAnyH_done (by kernel_rfl) (NoPanic.normal ?_) _
                      go_wp2_with fail
                      go_meet
                      exact ⟨p13, p14, A9, c9, rfl, rfl, k7, k5, k8, k6⟩
                  · (go_simp; try (with_reducible rfl))
                  · intro p13 u' hb ho13 hp13
                    have ne13_14 : p13 ≠ p14 := by have := obj_lt ho14; omega
                    replace hp13 := Nat.le_trans (hS.size) hp13
                    have hS' : (fun u => Below W7.heap.size W7 u) u' := hbt hS hb
                    refine ⟨hS', ?_⟩
                    replace ho14 := obj_below ho14 hb
                    replace ht8 := ht8.below hb
                    clear hS hb
                    have hS := hS'; clear hS'
                    rename World => u
                    try simp only [puts]
                    refine wpAnyH_ready (rs := [9]) (by kernel_rfl) (by simp) (arm_some (i := 9) 8 #[.agg #[.slice X n cM, .slice Y nr cR], .agg #[.int .i64 st, .int .i64 v, .slice A la ca], .agg #[.int .i64 st', .int .i64 v', .slice A' lb cb], .agg #[.string m, .slice A8 nlo c8]] rfl (by rfl) ((HTQ.out A8 c8 _ (HK.out.below (HQ7.out.below hS).1.1) (HM.out.below (HQ7.out.below hS).1.1) (HR.out.below (HQ7.out.below hS).1.1) (HA.out.below (HQ7.out.below hS).1.1) (HB.out.below (HQ7.out.below hS).1.1) ht8).mono fun e w' (he : DecTo _ _ _ _) => decto_some he) ?_ ?_ AllReadyH.nil)
                    · (go_simp; try (with_reducible rfl))
                    · intro v9 u' hT
                      obtain ⟨A9, c9, rfl, ht9, hb⟩ := hT
                      have hS' : (fun u => Below W7.heap.size W7 u) u' := hbt hS hb
                      refine ⟨hS', ?_⟩
                      replace ho14 := obj_below ho14 hb
                      replace ho13 := obj_below ho13 hb
                      replace ht8 := ht8.below hb
                      clear hS hb
                      have hS := hS'; clear hS'
                      rename World => u
                      try simp only [puts]
                      refine gv 10 (v := ?_) (fun u hu => ?_) hS ?_
                      rotate_left
                      · ((obtain ⟨⟨m0, m1⟩, a0, a1, a2, b0, b1, b2⟩ := (HQ7.out.below hu).1.cells; obtain ⟨x0, x1, _, _⟩ := obj_cells (HQ7.out.below hu).2; obtain ⟨v0, v1, _, _⟩ := obj_cells (obj_below HV7.out hu)); go_simp; try (with_reducible rfl))
                      try simp only [puts]
                      refine gv 11 (v := ?_) (fun u hu => ?_) hS ?_
                      rotate_left
                      · ((obtain ⟨⟨m0, m1⟩, a0, a1, a2, b0, b1, b2⟩ := (HQ7.out.below hu).1.cells; obtain ⟨x0, x1, _, _⟩ := obj_cells (HQ7.out.below hu).2; obtain ⟨v0, v1, _, _⟩ := obj_cells (obj_below HV7.out hu)); go_simp; try (with_reducible rfl))
                      try simp only [puts]
                      refine gv 12 (v := ?_) (fun u hu => ?_) hS ?_
                      rotate_left
                      · ((obtain ⟨⟨m0, m1⟩, a0, a1, a2, b0, b1, b2⟩ := (HQ7.out.below hu).1.cells; obtain ⟨x0, x1, _, _⟩ := obj_cells (HQ7.out.below hu).2; obtain ⟨v0, v1, _, _⟩ := obj_cells (obj_below HV7.out hu)); go_simp; try (with_reducible rfl))
                      try simp only [puts]
                      obtain ⟨d0, d1, f0, f1⟩ := obj_cells ho13
                      have k1 := obj_set2 ho13 (.string mo) (.slice A9 Vo.length c9)
                      have k2 := obj_set_other ho14 (Ne.symm ne13_14) (.string mo) (.slice A9 Vo.length c9)
                      have k3 : Below W7.heap.size W7 _ := below_set2 hS hp13 (.string mo) (.slice A9 Vo.length c9)
                      have k4 := vals_by_msg ht9 ho13 (.string mo) (.slice A9 Vo.length c9)
                      refine only (i := 15) rfl (by kernel_rfl) (by rfl) (fun K hK => ?_)
                      go_simp
                      refine hK.out _ _ k3 ?_
                      clear hK
                      try simp only [puts]
                      clear d0 d1 f0 f1 hS
                      generalize ((u.setCell _ _).setCell _ _) = u8 at *
                      obtain ⟨d0, d1, f0, f1⟩ := obj_cells k2
                      have k5 := obj_set_other k1 ne13_14 (.int .i64 0) (.int .i64 0)
                      have k6 := obj_set2 k2 (.int .i64 0) (.int .i64 0)
                      have k7 : Below W7.heap.size W7 _ := below_set2 k3 hp14 (.int .i64 0) (.int .i64 0)
                      have k8 := vals_by_fault k4 k2 (.int .i64 0) (.int .i64 0)
                      refine only (i := 16) rfl (by kernel_rfl) (by rfl) (fun K hK => ?_)
                      go_simp
                      refine hK.out _ _ k7 ?_
                      clear hK
                      try simp only [puts]
                      refine wpAnyH_done (by kernel_rfl) (NoPanic.normal ?_) _
                      go_wp2_with fail
                      go_meet
                      exact ⟨p13, p14, A9, c9, rfl, rfl, k7, k5, k8, k6⟩
                · (go_simp; try (with_reducible rfl))
                · intro p13 u' hb ho13 hp13
                  have ne13_14 : p13 ≠ p14 := by have := obj_lt ho14; omega
                  replace hp13 := Nat.le_trans (hS.size) hp13
                  have hS' : (fun u => Below W7.heap.size W7 u) u' := hbt hS hb
                  refine ⟨hS', ?_⟩
                  replace ho14 := obj_below ho14 hb
                  clear hS hb
                  have hS := hS'; clear hS'
                  rename World => u
                  try simp only [puts]
                  refine wpAnyH_ready (rs := [8]) (by kernel_rfl) (by simp) (arm_some (i := 8) 11 #[.agg #[.string m, .slice (some aB) lx cx], .int .i64 no] rfl (by rfl) (HWQ.out _ (HI.out.below (HQ7.out.below hS).1.1)) ?_ ?_ AllReadyH.nil)
                  · (go_simp; try (with_reducible rfl))
                  · intro v8 u' hT
                    obtain ⟨A8, c8, rfl, ht8, hb⟩ := hT
                    have hS' : (fun u => Below W7.heap.size W7 u) u' := hbt hS hb
                    refine ⟨hS', ?_⟩
                    replace ho14 := obj_below ho14 hb
                    replace ho13 := obj_below ho13 hb
                    clear hS hb
                    have hS := hS'; clear hS'
                    rename World => u
                    try simp only [puts]
                    refine wpAnyH_ready (rs := [9]) (by kernel_rfl) (by simp) (arm_some (i := 9) 8 #[.agg #[.slice X n cM, .slice Y nr cR], .agg #[.int .i64 st, .int .i64 v, .slice A la ca], .agg #[.int .i64 st', .int .i64 v', .slice A' lb cb], .agg #[.string m, .slice A8 nlo c8]] rfl (by rfl) ((HTQ.out A8 c8 _ (HK.out.below (HQ7.out.below hS).1.1) (HM.out.below (HQ7.out.below hS).1.1) (HR.out.below (HQ7.out.below hS).1.1) (HA.out.below (HQ7.out.below hS).1.1) (HB.out.below (HQ7.out.below hS).1.1) ht8).mono fun e w' (he : DecTo _ _ _ _) => decto_some he) ?_ ?_ AllReadyH.nil)
                    · (go_simp; try (with_reducible rfl))
                    · intro v9 u' hT
                      obtain ⟨A9, c9, rfl, ht9, hb⟩ := hT
                      have hS' : (fun u => Below W7.heap.size W7 u) u' := hbt hS hb
                      refine ⟨hS', ?_⟩
                      replace ho14 := obj_below ho14 hb
                      replace ho13 := obj_below ho13 hb
                      replace ht8 := ht8.below hb
                      clear hS hb
                      have hS := hS'; clear hS'
                      rename World => u
                      try simp only [puts]
                      refine gv 10 (v := ?_) (fun u hu => ?_) hS ?_
                      rotate_left
                      · ((obtain ⟨⟨m0, m1⟩, a0, a1, a2, b0, b1, b2⟩ := (HQ7.out.below hu).1.cells; obtain ⟨x0, x1, _, _⟩ := obj_cells (HQ7.out.below hu).2; obtain ⟨v0, v1, _, _⟩ := obj_cells (obj_below HV7.out hu)); go_simp; try (with_reducible rfl))
                      try simp only [puts]
                      refine gv 11 (v := ?_) (fun u hu => ?_) hS ?_
                      rotate_left
                      · ((obtain ⟨⟨m0, m1⟩, a0, a1, a2, b0, b1, b2⟩ := (HQ7.out.below hu).1.cells; obtain ⟨x0, x1, _, _⟩ := obj_cells (HQ7.out.below hu).2; obtain ⟨v0, v1, _, _⟩ := obj_cells (obj_below HV7.out hu)); go_simp; try (with_reducible rfl))
                      try simp only [puts]
                      refine gv 12 (v := ?_) (fun u hu => ?_) hS ?_
                      rotate_left
                      · ((obtain ⟨⟨m0, m1⟩, a0, a1, a2, b0, b1, b2⟩ := (HQ7.out.below hu).1.cells; obtain ⟨x0, x1, _, _⟩ := obj_cells (HQ7.out.below hu).2; obtain ⟨v0, v1, _, _⟩ := obj_cells (obj_below HV7.out hu)); go_simp; try (with_reducible rfl))
                      try simp only [puts]
                      obtain ⟨d0, d1, f0, f1⟩ := obj_cells ho13
                      have k1 := obj_set2 ho13 (.string mo) (.slice A9 Vo.length c9)
                      have k2 := obj_set_other ho14 (Ne.symm ne13_14) (.string mo) (.slice A9 Vo.length c9)
                      have k3 : Below W7.heap.size W7 _ := below_set2 hS hp13 (.string mo) (.slice A9 Vo.length c9)
                      have k4 := vals_by_msg ht9 ho13 (.string mo) (.slice A9 Vo.length c9)
                      refine only (i := 15) rfl (by kernel_rfl) (by rfl) (fun K hK => ?_)
                      go_simp
                      refine hK.out _ _ k3 ?_
                      clear hK
                      try simp only [puts]
                      clear d0 d1 f0 f1 hS
                      generalize ((u.setCell _ _).setCell _ _) = u8 at *
                      obtain ⟨d0, d1, f0, f1⟩ := obj_cells k2
                      have k5 := obj_set_other k1 ne13_14 (.int .i64 0) (.int .i64 0)
                      have k6 := obj_set2 k2 (.int .i64 0) (.int .i64 0)
                      have k7 : Below W7.heap.size W7 _ := below_set2 k3 hp14 (.int .i64 0) (.int .i64 0)
                      have k8 := vals_by_fault k4 k2 (.int .i64 0) (.int .i64 0)
                      refine only (i := 16) rfl (by kernel_rfl) (by rfl) (fun K hK => ?_)
                      go_simp
                      refine hK.out _ _ k7 ?_
                      clear hK
                      try simp only [puts]
                      refine wpAnyH_done (by kernel_rfl) (NoPanic.normal ?_) _
                      go_wp2_with fail
                      go_meet
                      exact ⟨p13, p14, A9, c9, rfl, rfl, k7, k5, k8, k6⟩
            case rest =>
              obtain ⟨p, p', E, ce, rfl, rfl, hb, hE, hEt, hF⟩ := hcut
              have HQ8 := Lib.hid (HQ7.out.below hb)
              have HY8 := Lib.hid (HY7.out.below hb)
              have HD8 := Lib.hid (HD7.out.below hb)
              have HV8 := Lib.hid (obj_below HV7.out hb)
              have HE8 := Lib.hid hE
              have HT8 := Lib.hid hEt
              obtain ⟨f0, f1, _, _⟩ := obj_cells hF
              clear hb hE hEt hF HQ7 HY7 HD7 HV7 HQ6 HY6 HD6 HTQ HWQ
              generalize wc = W8 at *
              obtain ⟨⟨m0, m1⟩, _⟩ := HQ8.out.1.cells
              go_wp2_with fail
              clear f0 f1 m0 m1
              go_loopw [13, 73] (fun gv i wr => ∃ j : Nat, j ≤ nr ∧ gv = .int .i64 (xgone no (R.take j)) ∧ i = .int .i64 (j : Int) ∧ Below W8.heap.size W8 wr) (fun _ i _ => nr - (intOf i).toNat)
              case atStart => exact ⟨0, Nat.zero_le _, rfl, rfl, Below.refl _ _⟩
              case round =>
                obtain ⟨j, hj, rfl, rfl, hb⟩ := hrel
                have HB9 := Lib.hid hb
                clear hb
                by_cases hlt2 : j < nr
                · have hjl : j < R.length := by have := HRM.out; omega
                  obtain ⟨ra, k, f, t, s', P, Bp, c, rfl, hxr, hcr⟩ := rls_all HR.out hjl
                  obtain ⟨⟨r0, r1, r2, r3, r4⟩, _⟩ := hcr _ (HQ8.out.below HB9.out).1.1
                  have HGS := Lib.hid (gone_step (no := no) hjl)
                  rw [hxr] at HGS
                  have HB10 := Lib.hid (hbt HB9.out (below_al wr (.cells #[.int .i64 k, .int .i64 f, .int .i64 t, .string s', .slice Bp P.length c] 48)))
                  obtain ⟨v0, v1, _, _⟩ := obj_cells (obj_below HV8.out HB10.out)
                  clear hxr hcr hjl
                  generalize P.length = np at *
                  generalize xgone no (R.take j) = g0 at *
                  by_cases hf : f = no
                  · by_cases hk : k = 2
                    · have HN : Hid (xgone no (R.take (j + 1)) = g0) := by show _ = _; rw [HGS.out, if_neg (fun h => h.2 hk)]
                      subst hf
                      subst hk
                      clear HGS
                      go_wp2
                      go_roundw
                      case rel => exact ⟨j + 1, by omega, by rw [HN.out], by go_num, HB10.out⟩
                      case measure => simp [intOf]; omega
                    · have HN : Hid (xgone no (R.take (j + 1)) = t) := by show _ = _; rw [HGS.out, if_pos ⟨hf, hk⟩]
                      have tk : (k != 2) = true := by simpa using hk
                      subst hf
                      clear HGS hk
                      go_wp2
                      go_roundw
                      case rel => exact ⟨j + 1, by omega, by rw [HN.out], by go_num, HB10.out⟩
                      case measure => simp [intOf]; omega
                  · have HN : Hid (xgone no (R.take (j + 1)) = g0) := by show _ = _; rw [HGS.out, if_neg (fun h => hf h.1)]
                    have tf : (f == no) = false := by simpa using hf
                    clear HGS hf
                    go_wp2
                    go_roundw
                    case rel => exact ⟨j + 1, by omega, by rw [HN.out], by go_num, HB10.out⟩
                    case measure => simp [intOf]; omega
                · have hall : R.take j = R := List.take_of_length_le (by have := HRM.out; omega)
                  rw [hall]
                  have HQ9 := Lib.hid (HQ8.out.below HB9.out)
                  have HY9 := Lib.hid (HY8.out.below HB9.out)
                  have HD9 := Lib.hid (HD8.out.below HB9.out)
                  have HE9 := Lib.hid (HE8.out.below HB9.out)
                  have HT9 := Lib.hid (HT8.out.below HB9.out)
                  clear hall HQ8 HY8 HD8 HE8 HT8 HV8
                  generalize xgone no R = g0 at *
                  go_wp2_with fail
                  generalize wr = W9 at *
                  refine wp_region_noPanic ?_
                  refine wp_region_held_drew (S := (fun u => Below W9.heap.size W9 u)) (by kernel_rfl) ((Below.refl _ _).drew) (fun hS => ?_)
                  refine gv 0 (v := ?_) (fun u hu => ?_) hS ?_
                  rotate_left
                  · ((obtain ⟨e0, e1, _, _⟩ := obj_cells (HE9.out.below hu); obtain ⟨y0, y1, _, _⟩ := obj_cells (HY9.out.below hu)); go_simp; try (with_reducible rfl))
                  try simp only [puts]
                  refine gv 1 (v := ?_) (fun u hu => ?_) hS ?_
                  rotate_left
                  · ((obtain ⟨e0, e1, _, _⟩ := obj_cells (HE9.out.below hu); obtain ⟨y0, y1, _, _⟩ := obj_cells (HY9.out.below hu)); go_simp; try (with_reducible rfl))
                  try simp only [puts]
                  refine gv 2 (v := ?_) (fun u hu => ?_) hS ?_
                  rotate_left
                  · ((obtain ⟨e0, e1, _, _⟩ := obj_cells (HE9.out.below hu); obtain ⟨y0, y1, _, _⟩ := obj_cells (HY9.out.below hu)); go_simp; try (with_reducible rfl))
                  try simp only [puts]
                  refine only_some (i := 3) 11 #[.agg #[.string mo, .slice D vn cd], .int .i64 g0] rfl (by kernel_rfl) (by rfl) ((HWG.out D cd _ (HD9.out.below hS))) ?_ ?_
                  · (go_simp; try (with_reducible rfl))
                  intro v3 w3 hT
                  obtain ⟨A3, c3, rfl, ht3, hb⟩ := hT
                  have hS' := hbt hS hb
                  refine ⟨hS', ?_⟩
                  clear hS
                  have hS := hS'; clear hS'
                  try simp only [puts]
                  refine only_call (i := 4) 9 #[.agg #[.string mo, .slice E Vo.length ce], .agg #[.string mo, .slice A3 Vo.length c3]] rfl (by kernel_rfl) (by rfl) ((HSG.out E ce A3 c3 _ (HT9.out.below hS) ht3).mono fun e w' he => ⟨he.1, hbt hS he.2⟩) ?_ ?_
                  · (go_simp; try (with_reducible rfl))
                  clear hS
                  intro w4 hS
                  try simp only [puts]
                  refine gv 5 (v := ?_) (fun u hu => ?_) hS ?_
                  rotate_left
                  · ((obtain ⟨e0, e1, _, _⟩ := obj_cells (HE9.out.below hu); obtain ⟨y0, y1, _, _⟩ := obj_cells (HY9.out.below hu)); go_simp; try (with_reducible rfl))
                  try simp only [puts]
                  refine wpAnyH_done (by kernel_rfl) (NoPanic.normal ?_) _
                  have HQ10 := Lib.hid (HQ9.out.below hS)
                  have HY10 := Lib.hid (HY9.out.below hS)
                  have HD10 := Lib.hid (HD9.out.below hS)
                  clear hS
                  go_wp2
                  go_roundw
                  case rel => exact ⟨q + 1, by omega, by go_num, HQ10.out, HY10.out, HD10.out⟩
                  case measure => simp [intOf]; omega
          · go_wp2
            go_ret
            exact ⟨rfl, HQ6.out.1.1⟩
    · rw [hgm] at HGM
      clear hK hM hR hA hB hI hlM hfM hcM hlR hf3 hma hmb hs hg1 hg2 hg3 hgz hf4 hgm
      generalize M.length = n at *
      generalize R.length = nr at *
      generalize a.length = la at *
      generalize b.length = lb at *
      generalize l.length = lx at *
      go_enter Tryd.func4, Tryd.ntmps4
      go_wp2_with fail
      generalize ((w.alloc (.cells #[.slice X n cM, .slice Y nr cR] 25)).alloc (.cells #[.int .i64 st, .int .i64 v, .slice A la ca, .int .i64 st', .int .i64 v', .slice A' lb cb] 29)).alloc (.cells #[.string m, .slice B lx cx] 32) = U at *
      refine (HAW.out _ (HK.out.below HQ0.out.1.1)).mono ?_
      rintro e w1 ⟨rfl, hb1⟩
      have HQ1 := Lib.hid (HQ0.out.below hb1)
      clear hb1 HQ0
      obtain ⟨⟨m0, m1⟩, a0, a1, a2, b0, b1, b2⟩ := HQ1.out.1.cells
      go_wp2_with fail
      clear m0 m1 a0 a1 a2 b0 b1 b2
      refine (HG.out _ (HM.out.below HQ1.out.1.1) (HR.out.below HQ1.out.1.1)).mono ?_
      rintro e w2 ⟨rfl, hb2⟩
      have HQ2 := Lib.hid (HQ1.out.below hb2)
      clear hb2 HQ1
      obtain ⟨x0, x1, _, _⟩ := obj_cells HQ2.out.2
      go_wp2_with fail
      clear x0 x1
      refine (HGM.out _ (HI.out.below HQ2.out.1.1)).mono ?_
      rintro e w3 ⟨rfl, hb3⟩
      have HQ3 := Lib.hid (HQ2.out.below hb3)
      clear hb3 HQ2
      go_wp2_with fail
      refine (HAW.out _ (HK.out.below HQ3.out.1.1)).mono ?_
      rintro e w4 ⟨rfl, hb4⟩
      have HQ4 := Lib.hid (HQ3.out.below hb4)
      clear hb4
      go_wp2
      go_ret
      exact ⟨rfl, HQ4.out.1.1⟩
  · rw [hg] at HG
    clear hK hM hR hA hB hI hlM hfM hcM hlR hf3 hma hmb hs hg
    generalize M.length = n at *
    generalize R.length = nr at *
    generalize a.length = la at *
    generalize b.length = lb at *
    generalize l.length = lx at *
    go_enter Tryd.func4, Tryd.ntmps4
    go_wp2_with fail
    generalize ((w.alloc (.cells #[.slice X n cM, .slice Y nr cR] 25)).alloc (.cells #[.int .i64 st, .int .i64 v, .slice A la ca, .int .i64 st', .int .i64 v', .slice A' lb cb] 29)).alloc (.cells #[.string m, .slice B lx cx] 32) = U at *
    refine (HAW.out _ (HK.out.below HQ0.out.1.1)).mono ?_
    rintro e w1 ⟨rfl, hb1⟩
    have HQ1 := Lib.hid (HQ0.out.below hb1)
    clear hb1 HQ0
    obtain ⟨⟨m0, m1⟩, a0, a1, a2, b0, b1, b2⟩ := HQ1.out.1.cells
    go_wp2_with fail
    clear m0 m1 a0 a1 a2 b0 b1 b2
    refine (HG.out _ (HM.out.below HQ1.out.1.1) (HR.out.below HQ1.out.1.1)).mono ?_
    rintro e w2 ⟨rfl, hb2⟩
    have HQ2 := Lib.hid (HQ1.out.below hb2)
    clear hb2 HQ1
    go_wp2_with fail
    refine (HAW.out _ (HK.out.below HQ2.out.1.1)).mono ?_
    rintro e w4 ⟨rfl, hb4⟩
    have HQ4 := Lib.hid (HQ2.out.below hb4)
    clear hb4
    go_wp2
    go_ret
    exact ⟨rfl, HQ4.out.1.1⟩

end Go.Proofs.YthheflgfbdcnlaaDoor
