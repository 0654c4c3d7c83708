/-
  The law XlateTranslates: for every map, schemas and message, in every world where the table of kinds reads as it is laid.
-/
import Derived.Test.YthheflgfbdcnlaaGreatDoorXltLm
import Derived.Test.YthheflgfbdcnlaaGreatDoorXltLawC
import Derived.Test.YthheflgfbdcnlaaGreatDoorXltTrn
import Derived.Test.YthheflgfbdcnlaaGreatDoorPackMsg
namespace Go.Proofs.YthheflgfbdcnlaaGreatDoor
open Go.RowKit

set_option maxRecDepth 100000 in
set_option maxHeartbeats 25600000 in
theorem xtranslates_row (X : Option Addr) (cM : Nat) (M : List PairT) (Y : Option Addr) (cR : Nat) (R : List Ru) (st v : Int) (A : Option Addr) (ca : Nat) (a : List Sp) (st' v' : Int) (A' : Option Addr) (cb : Nat) (b : List Sp) (m : ByteArray) (B : Option Addr) (cx : Nat) (l : List Item) (w : World) (hK : Kinds w) (hM : Prs w X M) (hlM : M.length ≤ maxLen) (hfM : Fit2 M) (hcM : M.length ≤ cM) (hR : Rls w Y R) (hlR : R.length ≤ maxLen) (hf3 : Fit3 R) (hA : Spl w A a) (hma : a.length ≤ maxLen) (hB : Spl w A' b) (hmb : b.length ≤ maxLen) (hm : m.size ≤ maxLen) (hI : Tlvs w B l) (_ : l.length ≤ maxLen) (hs : ∀ x ∈ l, x.2.size ≤ maxLen) :
    Calls Tryz.prog 4 #[.agg #[.slice X M.length cM, .slice Y R.length cR], .agg #[.int .i64 st, .int .i64 v, .slice A a.length ca, .int .i64 st', .int .i64 v', .slice A' b.length cb], .agg #[.string m, .slice B l.length cx]] w fun e w' => e = .returned (.bool true) ∧ Below w.heap.size w w' := by
  have HAW := Lib.hid (fun W h => xawake_any rchk_any rapp_any W h)
  have HG := Lib.hid (fun W h1 h2 => xlgreat_any X cM M Y cR R st v A a.length ca st' v' A' b.length cb W h1 h2 hlM hlR hfM hf3 hma hmb)
  have HGM := Lib.hid (fun W h => mgreat_any m B cx l W h hs)
  have HQ0 := Lib.hid (lm_new w X M.length cM Y R.length cR st v A a.length ca st' v' A' b.length cb m B l.length cx)
  have HK := Lib.hid hK
  have HM := Lib.hid hM
  have HR := Lib.hid hR
  have HA := Lib.hid hA
  have HB := Lib.hid hB
  have HI := Lib.hid hI
  cases hg : (xgreatB M R || decide (200 < a.length) || decide (200 < b.length))
  · simp only [Bool.or_eq_false_iff, decide_eq_false_iff_not] at hg
    obtain ⟨⟨hg1, hg2⟩, hg3⟩ := hg
    have hf4 := xgreat_four hg1 hf3
    have hgz : (xgreatB M R || decide (200 < a.length) || decide (200 < b.length)) = false := by rw [hg1, decide_eq_false hg2, decide_eq_false hg3]; rfl
    rw [hgz] at HG
    cases hgm : greatM m l
    · rw [hgm] at HGM
      have hl2 := (great_in hgm).2.1
      have hl3 := (great_in hgm).2.1
      have HCP := Lib.hid (fun W h1 h2 => map_some (xcopy_any X cM M Y cR R W h1 h2 (by have := (xgreat_in hg1).1; omega) (by have := (xgreat_in hg1).2.1; omega) (fun r hr => (hf4 r hr).2.1)))
      have HMP := Lib.hid (fun W h => msg_some (mcopy_any m B cx l W h (by omega)))
      have HTR := Lib.hid (fun (A1 : Option Addr × Option Addr) (c1 : Nat × Nat) A7 c7 W k0 (k1 : MpIn M R A1 c1 W) k2 k3 k4 => (xtrans_any rchk_any rapp_any A1.1 c1.1 M A1.2 c1.2 R st v A ca a st' v' A' cb b m A7 c7 l W k0 k1.1 k1.2.2 k2 k3 k4 (by omega) (by omega) hlM k1.2.1 hlR hf4 (by omega) hs).mono fun e w' he => decto_some he)
      have HTF := Lib.hid (fun W k1 k2 k3 k4 k5 => xtref_any X cM M Y cR R st v A ca a st' v' A' cb b m B cx l W k1 k2 k3 k4 k5 (by omega) (by omega) hlM hcM hlR hfM hf4 (by omega) hs hm)
      have HTL : Hid ((xltT st v a st' v' b M R m l).2.1.length ≤ 128) := by
        show _ ≤ _
        rcases xt_cases (st := st) (v := v) (a := a) (st' := st') (v' := v') (b := b) (M := M) (R := R) (m := m) (l := l) with ⟨k, _, hT⟩ | ⟨h1, h2, h3, h4⟩
        · rw [hT]; exact Nat.zero_le _
        · rw [xt_ok h1 h2 h3 h4]; exact xsort_length (xlt_valid h1 (msgN_told h2) h3 h4)
      generalize xltT st v a st' v' b M R m l = T at *
      obtain ⟨t1, TL, e1, e2⟩ := T
      dsimp only at HTR HTF HTL
      have HSM := Lib.hid (fun E ce D cd W k1 k2 => mrsame_any t1 E ce TL t1 D cd TL W k1 k2 (by have := HTL.out; omega))
      simp only [sameM_refl] at HSM
      clear hl3 hK hM hR hA hB hI hlM hfM hcM hlR hf3 hma hmb hs hm hg1 hg2 hg3 hgz hf4 hgm hl2
      generalize M.length = n at *
      generalize R.length = nr at *
      generalize a.length = la at *
      generalize b.length = lb at *
      generalize l.length = lx at *
      generalize htn : TL.length = tn at *
      have HTN := Lib.hid htn
      clear htn
      go_enter Tryz.func4, Tryz.ntmps4
      go_wp2_with fail
      generalize ((w.alloc (.cells #[.slice X n cM, .slice Y nr cR] 25)).alloc (.cells #[.int .i64 st, .int .i64 v, .slice A la ca, .int .i64 st', .int .i64 v', .slice A' lb cb] 29)).alloc (.cells #[.string m, .slice B lx cx] 41) = U at *
      refine (HAW.out _ (HK.out.below HQ0.out.1.1)).mono ?_
      rintro e w1 ⟨rfl, hb1⟩
      have HQ1 := Lib.hid (HQ0.out.below hb1)
      clear hb1 HQ0
      obtain ⟨⟨m0, m1⟩, a0, a1, a2, b0, b1, b2⟩ := HQ1.out.1.cells
      go_wp2_with fail
      clear m0 m1 a0 a1 a2 b0 b1 b2
      refine (HG.out _ (HM.out.below HQ1.out.1.1) (HR.out.below HQ1.out.1.1)).mono ?_
      rintro e w2 ⟨rfl, hb2⟩
      have HQ2 := Lib.hid (HQ1.out.below hb2)
      clear hb2 HQ1
      obtain ⟨x0, x1, _, _⟩ := obj_cells HQ2.out.2
      go_wp2_with fail
      clear x0 x1
      refine (HGM.out _ (HI.out.below HQ2.out.1.1)).mono ?_
      rintro e w3 ⟨rfl, hb3⟩
      have HQ3 := Lib.hid (HQ2.out.below hb3)
      clear hb3 HQ2
      go_upto_region 3 with fail
      go_cut [7, 8] (fun s7 s8 wx => ∃ (p p' : Nat) (E : Option Addr) (ce : Nat), s7 = .pointer (some ⟨p, 0, none⟩) ∧ s8 = .pointer (some ⟨p', 0, none⟩) ∧ Below w3.heap.size w3 wx ∧ MBox wx p t1 E tn ce ∧ Tlvs wx E TL ∧ wx.heap[p']? = some (.cells #[.int .i64 e1, .int .i64 e2] 44))
      case first =>
        refine wp_region_noPanic ?_
        refine wp_region_held_drew (S := (fun u => Below w3.heap.size w3 u)) (by kernel_rfl) ((Below.refl _ _).drew) (fun hS => ?_)
        refine gv 0 (v := ?_) (fun u hu => ?_) hS ?_
        rotate_left
        · ((obtain ⟨⟨m0, m1⟩, a0, a1, a2, b0, b1, b2⟩ := (HQ3.out.below hu).1.cells; obtain ⟨x0, x1, _, _⟩ := obj_cells (HQ3.out.below hu).2); go_simp; try (with_reducible rfl))
        try simp only [puts]
        refine gv 2 (v := ?_) (fun u hu => ?_) hS ?_
        rotate_left
        · ((obtain ⟨⟨m0, m1⟩, a0, a1, a2, b0, b1, b2⟩ := (HQ3.out.below hu).1.cells; obtain ⟨x0, x1, _, _⟩ := obj_cells (HQ3.out.below hu).2); go_simp; try (with_reducible rfl))
        try simp only [puts]
        refine gv 3 (v := ?_) (fun u hu => ?_) hS ?_
        rotate_left
        · ((obtain ⟨⟨m0, m1⟩, a0, a1, a2, b0, b1, b2⟩ := (HQ3.out.below hu).1.cells; obtain ⟨x0, x1, _, _⟩ := obj_cells (HQ3.out.below hu).2); go_simp; try (with_reducible rfl))
        try simp only [puts]
        refine gv 4 (v := ?_) (fun u hu => ?_) hS ?_
        rotate_left
        · ((obtain ⟨⟨m0, m1⟩, a0, a1, a2, b0, b1, b2⟩ := (HQ3.out.below hu).1.cells; obtain ⟨x0, x1, _, _⟩ := obj_cells (HQ3.out.below hu).2); go_simp; try (with_reducible rfl))
        try simp only [puts]
        refine gv 5 (v := ?_) (fun u hu => ?_) hS ?_
        rotate_left
        · ((obtain ⟨⟨m0, m1⟩, a0, a1, a2, b0, b1, b2⟩ := (HQ3.out.below hu).1.cells; obtain ⟨x0, x1, _, _⟩ := obj_cells (HQ3.out.below hu).2); go_simp; try (with_reducible rfl))
        try simp only [puts]
        refine gv 6 (v := ?_) (fun u hu => ?_) hS ?_
        rotate_left
        · ((obtain ⟨⟨m0, m1⟩, a0, a1, a2, b0, b1, b2⟩ := (HQ3.out.below hu).1.cells; obtain ⟨x0, x1, _, _⟩ := obj_cells (HQ3.out.below hu).2); go_simp; try (with_reducible rfl))
        try simp only [puts]
        refine wpAnyH_ready (rs := [1, 12, 13]) (by kernel_rfl) (by simp) (arm_some (i := 1) 9 #[.agg #[.slice X n cM, .slice Y nr cR]] rfl (by rfl) (HCP.out _ (HM.out.below (HQ3.out.below hS).1.1) (HR.out.below (HQ3.out.below hS).1.1)) ?_ ?_ (arm_alloc (i := 12) (.cells #[.string ⟨#[]⟩, .slice none 0 0] 41) rfl (by rfl) ?_ ?_ (arm_alloc (i := 13) (.cells #[.int .i64 0, .int .i64 0] 44) rfl (by rfl) ?_ ?_ AllReadyH.nil)))
        · (go_simp; try (with_reducible rfl))
        · intro v1 u' hT
          obtain ⟨A1, c1, rfl, ht1, hb⟩ := hT
          have hS' : (fun u => Below w3.heap.size w3 u) u' := hbt hS hb
          refine ⟨hS', ?_⟩
          clear hS hb
          have hS := hS'; clear hS'
          rename World => u
          try simp only [puts]
          refine wpAnyH_ready (rs := [7, 12, 13]) (by kernel_rfl) (by simp) (arm_some (i := 7) 14 #[.agg #[.string m, .slice B lx cx]] rfl (by rfl) (HMP.out _ (HI.out.below (HQ3.out.below hS).1.1)) ?_ ?_ (arm_alloc (i := 12) (.cells #[.string ⟨#[]⟩, .slice none 0 0] 41) rfl (by rfl) ?_ ?_ (arm_alloc (i := 13) (.cells #[.int .i64 0, .int .i64 0] 44) rfl (by rfl) ?_ ?_ AllReadyH.nil)))
          · (go_simp; try (with_reducible rfl))
          · intro v7 u' hT
            obtain ⟨A7, c7, rfl, ht7, hb⟩ := hT
            have hS' : (fun u => Below w3.heap.size w3 u) u' := hbt hS hb
            refine ⟨hS', ?_⟩
            replace ht1 := ht1.below hb
            clear hS hb
            have hS := hS'; clear hS'
            rename World => u
            try simp only [puts]
            refine wpAnyH_ready (rs := [8, 12, 13]) (by kernel_rfl) (by simp) (arm_some (i := 8) 13 #[.agg #[.slice A1.1 n c1.1, .slice A1.2 nr c1.2], .agg #[.int .i64 st, .int .i64 v, .slice A la ca], .agg #[.int .i64 st', .int .i64 v', .slice A' lb cb], .agg #[.string m, .slice A7 lx c7]] rfl (by rfl) (HTR.out A1 c1 A7 c7 _ (HK.out.below (HQ3.out.below hS).1.1) ht1 (HA.out.below (HQ3.out.below hS).1.1) (HB.out.below (HQ3.out.below hS).1.1) ht7) ?_ ?_ (arm_alloc (i := 12) (.cells #[.string ⟨#[]⟩, .slice none 0 0] 41) rfl (by rfl) ?_ ?_ (arm_alloc (i := 13) (.cells #[.int .i64 0, .int .i64 0] 44) rfl (by rfl) ?_ ?_ AllReadyH.nil)))
            · (go_simp; try (with_reducible rfl))
            · intro v8 u' hT
              obtain ⟨A8, c8, rfl, ht8, hb⟩ := hT
              have hS' : (fun u => Below w3.heap.size w3 u) u' := hbt hS hb
              refine ⟨hS', ?_⟩
              replace ht1 := ht1.below hb
              replace ht7 := ht7.below hb
              clear hS hb
              have hS := hS'; clear hS'
              rename World => u
              try simp only [puts]
              refine gv 9 (v := ?_) (fun u hu => ?_) hS ?_
              rotate_left
              · ((obtain ⟨⟨m0, m1⟩, a0, a1, a2, b0, b1, b2⟩ := (HQ3.out.below hu).1.cells; obtain ⟨x0, x1, _, _⟩ := obj_cells (HQ3.out.below hu).2); go_simp; try (with_reducible rfl))
              try simp only [puts]
              refine gv 10 (v := ?_) (fun u hu => ?_) hS ?_
              rotate_left
              · ((obtain ⟨⟨m0, m1⟩, a0, a1, a2, b0, b1, b2⟩ := (HQ3.out.below hu).1.cells; obtain ⟨x0, x1, _, _⟩ := obj_cells (HQ3.out.below hu).2); go_simp; try (with_reducible rfl))
              try simp only [puts]
              refine gv 11 (v := ?_) (fun u hu => ?_) hS ?_
              rotate_left
              · ((obtain ⟨⟨m0, m1⟩, a0, a1, a2, b0, b1, b2⟩ := (HQ3.out.below hu).1.cells; obtain ⟨x0, x1, _, _⟩ := obj_cells (HQ3.out.below hu).2); go_simp; try (with_reducible rfl))
              try simp only [puts]
              refine wpAnyH_ready (rs := [12, 13]) (by kernel_rfl) (by simp) (arm_alloc (i := 12) (.cells #[.string ⟨#[]⟩, .slice none 0 0] 41) rfl (by rfl) ?_ ?_ (arm_alloc (i := 13) (.cells #[.int .i64 0, .int .i64 0] 44) rfl (by rfl) ?_ ?_ AllReadyH.nil))
              · (go_simp; try (with_reducible rfl))
              · intro p12 u' hb ho12 hp12
                replace hp12 := Nat.le_trans (hS.size) hp12
                have hS' : (fun u => Below w3.heap.size w3 u) u' := hbt hS hb
                refine ⟨hS', ?_⟩
                replace ht1 := ht1.below hb
                replace ht7 := ht7.below hb
                replace ht8 := ht8.below hb
                clear hS hb
                have hS := hS'; clear hS'
                rename World => u
                try simp only [puts]
                refine wpAnyH_ready (rs := [13]) (by kernel_rfl) (by simp) (arm_alloc (i := 13) (.cells #[.int .i64 0, .int .i64 0] 44) rfl (by rfl) ?_ ?_ AllReadyH.nil)
                · (go_simp; try (with_reducible rfl))
                · intro p13 u' hb ho13 hp13
                  have ne12_13 : p12 ≠ p13 := by have := obj_lt ho12; omega
                  replace hp13 := Nat.le_trans (hS.size) hp13
                  have hS' : (fun u => Below w3.heap.size w3 u) u' := hbt hS hb
                  refine ⟨hS', ?_⟩
                  replace ho12 := obj_below ho12 hb
                  replace ht1 := ht1.below hb
                  replace ht7 := ht7.below hb
                  replace ht8 := ht8.below hb
                  clear hS hb
                  have hS := hS'; clear hS'
                  rename World => u
                  try simp only [puts]
                  obtain ⟨d0, d1, f0, f1⟩ := obj_cells ho12
                  have k1 := obj_set2 ho12 (.string t1) (.slice A8 tn c8)
                  have k2 := obj_set_other ho13 (Ne.symm ne12_13) (.string t1) (.slice A8 tn c8)
                  have k3 : Below w3.heap.size w3 _ := below_set2 hS hp12 (.string t1) (.slice A8 tn c8)
                  have k4 := vals_by_msg ht8 ho12 (.string t1) (.slice A8 tn c8)
                  refine only (i := 14) rfl (by kernel_rfl) (by rfl) (fun K hK => ?_)
                  go_simp
                  refine hK.out _ _ k3 ?_
                  clear hK
                  try simp only [puts]
                  clear d0 d1 f0 f1 hS
                  generalize ((u.setCell _ _).setCell _ _) = u8 at *
                  obtain ⟨d0, d1, f0, f1⟩ := obj_cells k2
                  have k5 := obj_set_other k1 ne12_13 (.int .i64 e1) (.int .i64 e2)
                  have k6 := obj_set2 k2 (.int .i64 e1) (.int .i64 e2)
                  have k7 : Below w3.heap.size w3 _ := below_set2 k3 hp13 (.int .i64 e1) (.int .i64 e2)
                  have k8 := vals_by_fault k4 k2 (.int .i64 e1) (.int .i64 e2)
                  refine only (i := 15) rfl (by kernel_rfl) (by rfl) (fun K hK => ?_)
                  go_simp
                  refine hK.out _ _ k7 ?_
                  clear hK
                  try simp only [puts]
                  refine wpAnyH_done (by kernel_rfl) (NoPanic.normal ?_) _
                  go_wp2_with fail
                  go_meet
                  exact ⟨p12, p13, A8, c8, rfl, rfl, k7, k5, k8, k6⟩
              · (go_simp; try (with_reducible rfl))
              · intro p13 u' hb ho13 hp13
                replace hp13 := Nat.le_trans (hS.size) hp13
                have hS' : (fun u => Below w3.heap.size w3 u) u' := hbt hS hb
                refine ⟨hS', ?_⟩
                replace ht1 := ht1.below hb
                replace ht7 := ht7.below hb
                replace ht8 := ht8.below hb
                clear hS hb
                have hS := hS'; clear hS'
                rename World => u
                try simp only [puts]
                refine wpAnyH_ready (rs := [12]) (by kernel_rfl) (by simp) (arm_alloc (i := 12) (.cells #[.string ⟨#[]⟩, .slice none 0 0] 41) rfl (by rfl) ?_ ?_ AllReadyH.nil)
                · (go_simp; try (with_reducible rfl))
                · intro p12 u' hb ho12 hp12
                  have ne12_13 : p12 ≠ p13 := by have := obj_lt ho13; omega
                  replace hp12 := Nat.le_trans (hS.size) hp12
                  have hS' : (fun u => Below w3.heap.size w3 u) u' := hbt hS hb
                  refine ⟨hS', ?_⟩
                  replace ho13 := obj_below ho13 hb
                  replace ht1 := ht1.below hb
                  replace ht7 := ht7.below hb
                  replace ht8 := ht8.below hb
                  clear hS hb
                  have hS := hS'; clear hS'
                  rename World => u
                  try simp only [puts]
                  obtain ⟨d0, d1, f0, f1⟩ := obj_cells ho12
                  have k1 := obj_set2 ho12 (.string t1) (.slice A8 tn c8)
                  have k2 := obj_set_other ho13 (Ne.symm ne12_13) (.string t1) (.slice A8 tn c8)
                  have k3 : Below w3.heap.size w3 _ := below_set2 hS hp12 (.string t1) (.slice A8 tn c8)
                  have k4 := vals_by_msg ht8 ho12 (.string t1) (.slice A8 tn c8)
                  refine only (i := 14) rfl (by kernel_rfl) (by rfl) (fun K hK => ?_)
                  go_simp
                  refine hK.out _ _ k3 ?_
                  clear hK
                  try simp only [puts]
                  clear d0 d1 f0 f1 hS
                  generalize ((u.setCell _ _).setCell _ _) = u8 at *
                  obtain ⟨d0, d1, f0, f1⟩ := obj_cells k2
                  have k5 := obj_set_other k1 ne12_13 (.int .i64 e1) (.int .i64 e2)
                  have k6 := obj_set2 k2 (.int .i64 e1) (.int .i64 e2)
                  have k7 : Below w3.heap.size w3 _ := below_set2 k3 hp13 (.int .i64 e1) (.int .i64 e2)
                  have k8 := vals_by_fault k4 k2 (.int .i64 e1) (.int .i64 e2)
                  refine only (i := 15) rfl (by kernel_rfl) (by rfl) (fun K hK => ?_)
                  go_simp
                  refine hK.out _ _ k7 ?_
                  clear hK
                  try simp only [puts]
                  refine wpAnyH_done (by kernel_rfl) (NoPanic.normal ?_) _
                  go_wp2_with fail
                  go_meet
                  exact ⟨p12, p13, A8, c8, rfl, rfl, k7, k5, k8, k6⟩
            · (go_simp; try (with_reducible rfl))
            · intro p12 u' hb ho12 hp12
              replace hp12 := Nat.le_trans (hS.size) hp12
              have hS' : (fun u => Below w3.heap.size w3 u) u' := hbt hS hb
              refine ⟨hS', ?_⟩
              replace ht1 := ht1.below hb
              replace ht7 := ht7.below hb
              clear hS hb
              have hS := hS'; clear hS'
              rename World => u
              try simp only [puts]
              refine wpAnyH_ready (rs := [8, 13]) (by kernel_rfl) (by simp) (arm_some (i := 8) 13 #[.agg #[.slice A1.1 n c1.1, .slice A1.2 nr c1.2], .agg #[.int .i64 st, .int .i64 v, .slice A la ca], .agg #[.int .i64 st', .int .i64 v', .slice A' lb cb], .agg #[.string m, .slice A7 lx c7]] rfl (by rfl) (HTR.out A1 c1 A7 c7 _ (HK.out.below (HQ3.out.below hS).1.1) ht1 (HA.out.below (HQ3.out.below hS).1.1) (HB.out.below (HQ3.out.below hS).1.1) ht7) ?_ ?_ (arm_alloc (i := 13) (.cells #[.int .i64 0, .int .i64 0] 44) rfl (by rfl) ?_ ?_ AllReadyH.nil))
              · (go_simp; try (with_reducible rfl))
              · intro v8 u' hT
                obtain ⟨A8, c8, rfl, ht8, hb⟩ := hT
                have hS' : (fun u => Below w3.heap.size w3 u) u' := hbt hS hb
                refine ⟨hS', ?_⟩
                replace ho12 := obj_below ho12 hb
                replace ht1 := ht1.below hb
                replace ht7 := ht7.below hb
                clear hS hb
                have hS := hS'; clear hS'
                rename World => u
                try simp only [puts]
                refine gv 9 (v := ?_) (fun u hu => ?_) hS ?_
                rotate_left
                · ((obtain ⟨⟨m0, m1⟩, a0, a1, a2, b0, b1, b2⟩ := (HQ3.out.below hu).1.cells; obtain ⟨x0, x1, _, _⟩ := obj_cells (HQ3.out.below hu).2); go_simp; try (with_reducible rfl))
                try simp only [puts]
                refine gv 10 (v := ?_) (fun u hu => ?_) hS ?_
                rotate_left
                · ((obtain ⟨⟨m0, m1⟩, a0, a1, a2, b0, b1, b2⟩ := (HQ3.out.below hu).1.cells; obtain ⟨x0, x1, _, _⟩ := obj_cells (HQ3.out.below hu).2); go_simp; try (with_reducible rfl))
                try simp only [puts]
                refine gv 11 (v := ?_) (fun u hu => ?_) hS ?_
                rotate_left
                · ((obtain ⟨⟨m0, m1⟩, a0, a1, a2, b0, b1, b2⟩ := (HQ3.out.below hu).1.cells; obtain ⟨x0, x1, _, _⟩ := obj_cells (HQ3.out.below hu).2); go_simp; try (with_reducible rfl))
                try simp only [puts]
                refine wpAnyH_ready (rs := [13]) (by kernel_rfl) (by simp) (arm_alloc (i := 13) (.cells #[.int .i64 0, .int .i64 0] 44) rfl (by rfl) ?_ ?_ AllReadyH.nil)
                · (go_simp; try (with_reducible rfl))
                · intro p13 u' hb ho13 hp13
                  have ne12_13 : p12 ≠ p13 := by have := obj_lt ho12; omega
                  replace hp13 := Nat.le_trans (hS.size) hp13
                  have hS' : (fun u => Below w3.heap.size w3 u) u' := hbt hS hb
                  refine ⟨hS', ?_⟩
                  replace ho12 := obj_below ho12 hb
                  replace ht1 := ht1.below hb
                  replace ht7 := ht7.below hb
                  replace ht8 := ht8.below hb
                  clear hS hb
                  have hS := hS'; clear hS'
                  rename World => u
                  try simp only [puts]
                  obtain ⟨d0, d1, f0, f1⟩ := obj_cells ho12
                  have k1 := obj_set2 ho12 (.string t1) (.slice A8 tn c8)
                  have k2 := obj_set_other ho13 (Ne.symm ne12_13) (.string t1) (.slice A8 tn c8)
                  have k3 : Below w3.heap.size w3 _ := below_set2 hS hp12 (.string t1) (.slice A8 tn c8)
                  have k4 := vals_by_msg ht8 ho12 (.string t1) (.slice A8 tn c8)
                  refine only (i := 14) rfl (by kernel_rfl) (by rfl) (fun K hK => ?_)
                  go_simp
                  refine hK.out _ _ k3 ?_
                  clear hK
                  try simp only [puts]
                  clear d0 d1 f0 f1 hS
                  generalize ((u.setCell _ _).setCell _ _) = u8 at *
                  obtain ⟨d0, d1, f0, f1⟩ := obj_cells k2
                  have k5 := obj_set_other k1 ne12_13 (.int .i64 e1) (.int .i64 e2)
                  have k6 := obj_set2 k2 (.int .i64 e1) (.int .i64 e2)
                  have k7 : Below w3.heap.size w3 _ := below_set2 k3 hp13 (.int .i64 e1) (.int .i64 e2)
                  have k8 := vals_by_fault k4 k2 (.int .i64 e1) (.int .i64 e2)
                  refine only (i := 15) rfl (by kernel_rfl) (by rfl) (fun K hK => ?_)
                  go_simp
                  refine hK.out _ _ k7 ?_
                  clear hK
                  try simp only [puts]
                  refine wpAnyH_done (by kernel_rfl) (NoPanic.normal ?_) _
                  go_wp2_with fail
                  go_meet
                  exact ⟨p12, p13, A8, c8, rfl, rfl, k7, k5, k8, k6⟩
              · (go_simp; try (with_reducible rfl))
              · intro p13 u' hb ho13 hp13
                have ne12_13 : p12 ≠ p13 := by have := obj_lt ho12; omega
                replace hp13 := Nat.le_trans (hS.size) hp13
                have hS' : (fun u => Below w3.heap.size w3 u) u' := hbt hS hb
                refine ⟨hS', ?_⟩
                replace ho12 := obj_below ho12 hb
                replace ht1 := ht1.below hb
                replace ht7 := ht7.below hb
                clear hS hb
                have hS := hS'; clear hS'
                rename World => u
                try simp only [puts]
                refine wpAnyH_ready (rs := [8]) (by kernel_rfl) (by simp) (arm_some (i := 8) 13 #[.agg #[.slice A1.1 n c1.1, .slice A1.2 nr c1.2], .agg #[.int .i64 st, .int .i64 v, .slice A la ca], .agg #[.int .i64 st', .int .i64 v', .slice A' lb cb], .agg #[.string m, .slice A7 lx c7]] rfl (by rfl) (HTR.out A1 c1 A7 c7 _ (HK.out.below (HQ3.out.below hS).1.1) ht1 (HA.out.below (HQ3.out.below hS).1.1) (HB.out.below (HQ3.out.below hS).1.1) ht7) ?_ ?_ AllReadyH.nil)
                · (go_simp; try (with_reducible rfl))
                · intro v8 u' hT
                  obtain ⟨A8, c8, rfl, ht8, hb⟩ := hT
                  have hS' : (fun u => Below w3.heap.size w3 u) u' := hbt hS hb
                  refine ⟨hS', ?_⟩
                  replace ho12 := obj_below ho12 hb
                  replace ho13 := obj_below ho13 hb
                  replace ht1 := ht1.below hb
                  replace ht7 := ht7.below hb
                  clear hS hb
                  have hS := hS'; clear hS'
                  rename World => u
                  try simp only [puts]
                  refine gv 9 (v := ?_) (fun u hu => ?_) hS ?_
                  rotate_left
                  · ((obtain ⟨⟨m0, m1⟩, a0, a1, a2, b0, b1, b2⟩ := (HQ3.out.below hu).1.cells; obtain ⟨x0, x1, _, _⟩ := obj_cells (HQ3.out.below hu).2); go_simp; try (with_reducible rfl))
                  try simp only [puts]
                  refine gv 10 (v := ?_) (fun u hu => ?_) hS ?_
                  rotate_left
                  · ((obtain ⟨⟨m0, m1⟩, a0, a1, a2, b0, b1, b2⟩ := (HQ3.out.below hu).1.cells; obtain ⟨x0, x1, _, _⟩ := obj_cells (HQ3.out.below hu).2); go_simp; try (with_reducible rfl))
                  try simp only [puts]
                  refine gv 11 (v := ?_) (fun u hu => ?_) hS ?_
                  rotate_left
                  · ((obtain ⟨⟨m0, m1⟩, a0, a1, a2, b0, b1, b2⟩ := (HQ3.out.below hu).1.cells; obtain ⟨x0, x1, _, _⟩ := obj_cells (HQ3.out.below hu).2); go_simp; try (with_reducible rfl))
                  try simp only [puts]
                  obtain ⟨d0, d1, f0, f1⟩ := obj_cells ho12
                  have k1 := obj_set2 ho12 (.string t1) (.slice A8 tn c8)
                  have k2 := obj_set_other ho13 (Ne.symm ne12_13) (.string t1) (.slice A8 tn c8)
                  have k3 : Below w3.heap.size w3 _ := below_set2 hS hp12 (.string t1) (.slice A8 tn c8)
                  have k4 := vals_by_msg ht8 ho12 (.string t1) (.slice A8 tn c8)
                  refine only (i := 14) rfl (by kernel_rfl) (by rfl) (fun K hK => ?_)
                  go_simp
                  refine hK.out _ _ k3 ?_
                  clear hK
                  try simp only [puts]
                  clear d0 d1 f0 f1 hS
                  generalize ((u.setCell _ _).setCell _ _) = u8 at *
                  obtain ⟨d0, d1, f0, f1⟩ := obj_cells k2
                  have k5 := obj_set_other k1 ne12_13 (.int .i64 e1) (.int .i64 e2)
                  have k6 := obj_set2 k2 (.int .i64 e1) (.int .i64 e2)
                  have k7 : Below w3.heap.size w3 _ := below_set2 k3 hp13 (.int .i64 e1) (.int .i64 e2)
                  have k8 := vals_by_fault k4 k2 (.int .i64 e1) (.int .i64 e2)
                  refine only (i := 15) rfl (by kernel_rfl) (by rfl) (fun K hK => ?_)
                  go_simp
                  refine hK.out _ _ k7 ?_
                  clear hK
                  try simp only [puts]
                  refine wpAnyH_done (by kernel_rfl) (NoPanic.normal ?_) _
                  go_wp2_with fail
                  go_meet
                  exact ⟨p12, p13, A8, c8, rfl, rfl, k7, k5, k8, k6⟩
            · (go_simp; try (with_reducible rfl))
            · intro p13 u' hb ho13 hp13
              replace hp13 := Nat.le_trans (hS.size) hp13
              have hS' : (fun u => Below w3.heap.size w3 u) u' := hbt hS hb
              refine ⟨hS', ?_⟩
              replace ht1 := ht1.below hb
              replace ht7 := ht7.below hb
              clear hS hb
              have hS := hS'; clear hS'
              rename World => u
              try simp only [puts]
              refine wpAnyH_ready (rs := [8, 12]) (by kernel_rfl) (by simp) (arm_some (i := 8) 13 #[.agg #[.slice A1.1 n c1.1, .slice A1.2 nr c1.2], .agg #[.int .i64 st, .int .i64 v, .slice A la ca], .agg #[.int .i64 st', .int .i64 v', .slice A' lb cb], .agg #[.string m, .slice A7 lx c7]] rfl (by rfl) (HTR.out A1 c1 A7 c7 _ (HK.out.below (HQ3.out.below hS).1.1) ht1 (HA.out.below (HQ3.out.below hS).1.1) (HB.out.below (HQ3.out.below hS).1.1) ht7) ?_ ?_ (arm_alloc (i := 12) (.cells #[.string ⟨#[]⟩, .slice none 0 0] 41) rfl (by rfl) ?_ ?_ AllReadyH.nil))
              · (go_simp; try (with_reducible rfl))
              · intro v8 u' hT
                obtain ⟨A8, c8, rfl, ht8, hb⟩ := hT
                have hS' : (fun u => Below w3.heap.size w3 u) u' := hbt hS hb
                refine ⟨hS', ?_⟩
                replace ho13 := obj_below ho13 hb
                replace ht1 := ht1.below hb
                replace ht7 := ht7.below hb
                clear hS hb
                have hS := hS'; clear hS'
                rename World => u
                try simp only [puts]
                refine gv 9 (v := ?_) (fun u hu => ?_) hS ?_
                rotate_left
                · ((obtain ⟨⟨m0, m1⟩, a0, a1, a2, b0, b1, b2⟩ := (HQ3.out.below hu).1.cells; obtain ⟨x0, x1, _, _⟩ := obj_cells (HQ3.out.below hu).2); go_simp; try (with_reducible rfl))
                try simp only [puts]
                refine gv 10 (v := ?_) (fun u hu => ?_) hS ?_
                rotate_left
                · ((obtain ⟨⟨m0, m1⟩, a0, a1, a2, b0, b1, b2⟩ := (HQ3.out.below hu).1.cells; obtain ⟨x0, x1, _, _⟩ := obj_cells (HQ3.out.below hu).2); go_simp; try (with_reducible rfl))
                try simp only [puts]
                refine gv 11 (v := ?_) (fun u hu => ?_) hS ?_
                rotate_left
                · ((obtain ⟨⟨m0, m1⟩, a0, a1, a2, b0, b1, b2⟩ := (HQ3.out.below hu).1.cells; obtain ⟨x0, x1, _, _⟩ := obj_cells (HQ3.out.below hu).2); go_simp; try (with_reducible rfl))
                try simp only [puts]
                refine wpAnyH_ready (rs := [12]) (by kernel_rfl) (by simp) (arm_alloc (i := 12) (.cells #[.string ⟨#[]⟩, .slice none 0 0] 41) rfl (by rfl) ?_ ?_ AllReadyH.nil)
                · (go_simp; try (with_reducible rfl))
                · intro p12 u' hb ho12 hp12
                  have ne12_13 : p12 ≠ p13 := by have := obj_lt ho13; omega
                  replace hp12 := Nat.le_trans (hS.size) hp12
                  have hS' : (fun u => Below w3.heap.size w3 u) u' := hbt hS hb
                  refine ⟨hS', ?_⟩
                  replace ho13 := obj_below ho13 hb
                  replace ht1 := ht1.below hb
                  replace ht7 := ht7.below hb
                  replace ht8 := ht8.below hb
                  clear hS hb
                  have hS := hS'; clear hS'
                  rename World => u
                  try simp only [puts]
                  obtain ⟨d0, d1, f0, f1⟩ := obj_cells ho12
                  have k1 := obj_set2 ho12 (.string t1) (.slice A8 tn c8)
                  have k2 := obj_set_other ho13 (Ne.symm ne12_13) (.string t1) (.slice A8 tn c8)
                  have k3 : Below w3.heap.size w3 _ := below_set2 hS hp12 (.string t1) (.slice A8 tn c8)
                  have k4 := vals_by_msg ht8 ho12 (.string t1) (.slice A8 tn c8)
                  refine only (i := 14) rfl (by kernel_rfl) (by rfl) (fun K hK => ?_)
                  go_simp
                  refine hK.out _ _ k3 ?_
                  clear hK
                  try simp only [puts]
                  clear d0 d1 f0 f1 hS
                  generalize ((u.setCell _ _).setCell _ _) = u8 at *
                  obtain ⟨d0, d1, f0, f1⟩ := obj_cells k2
                  have k5 := obj_set_other k1 ne12_13 (.int .i64 e1) (.int .i64 e2)
                  have k6 := obj_set2 k2 (.int .i64 e1) (.int .i64 e2)
                  have k7 : Below w3.heap.size w3 _ := below_set2 k3 hp13 (.int .i64 e1) (.int .i64 e2)
                  have k8 := vals_by_fault k4 k2 (.int .i64 e1) (.int .i64 e2)
                  refine only (i := 15) rfl (by kernel_rfl) (by rfl) (fun K hK => ?_)
                  go_simp
                  refine hK.out _ _ k7 ?_
                  clear hK
                  try simp only [puts]
                  refine wpAnyH_done (by kernel_rfl) (NoPanic.normal ?_) _
                  go_wp2_with fail
                  go_meet
                  exact ⟨p12, p13, A8, c8, rfl, rfl, k7, k5, k8, k6⟩
              · (go_simp; try (with_reducible rfl))
              · intro p12 u' hb ho12 hp12
                have ne12_13 : p12 ≠ p13 := by have := obj_lt ho13; omega
                replace hp12 := Nat.le_trans (hS.size) hp12
                have hS' : (fun u => Below w3.heap.size w3 u) u' := hbt hS hb
                refine ⟨hS', ?_⟩
                replace ho13 := obj_below ho13 hb
                replace ht1 := ht1.below hb
                replace ht7 := ht7.below hb
                clear hS hb
                have hS := hS'; clear hS'
                rename World => u
                try simp only [puts]
                refine wpAnyH_ready (rs := [8]) (by kernel_rfl) (by simp) (arm_some (i := 8) 13 #[.agg #[.slice A1.1 n c1.1, .slice A1.2 nr c1.2], .agg #[.int .i64 st, .int .i64 v, .slice A la ca], .agg #[.int .i64 st', .int .i64 v', .slice A' lb cb], .agg #[.string m, .slice A7 lx c7]] rfl (by rfl) (HTR.out A1 c1 A7 c7 _ (HK.out.below (HQ3.out.below hS).1.1) ht1 (HA.out.below (HQ3.out.below hS).1.1) (HB.out.below (HQ3.out.below hS).1.1) ht7) ?_ ?_ AllReadyH.nil)
                · (go_simp; try (with_reducible rfl))
                · intro v8 u' hT
                  obtain ⟨A8, c8, rfl, ht8, hb⟩ := hT
                  have hS' : (fun u => Below w3.heap.size w3 u) u' := hbt hS hb
                  refine ⟨hS', ?_⟩
                  replace ho13 := obj_below ho13 hb
                  replace ho12 := obj_below ho12 hb
                  replace ht1 := ht1.below hb
                  replace ht7 := ht7.below hb
                  clear hS hb
                  have hS := hS'; clear hS'
                  rename World => u
                  try simp only [puts]
                  refine gv 9 (v := ?_) (fun u hu => ?_) hS ?_
                  rotate_left
                  · ((obtain ⟨⟨m0, m1⟩, a0, a1, a2, b0, b1, b2⟩ := (HQ3.out.below hu).1.cells; obtain ⟨x0, x1, _, _⟩ := obj_cells (HQ3.out.below hu).2); go_simp; try (with_reducible rfl))
                  try simp only [puts]
                  refine gv 10 (v := ?_) (fun u hu => ?_) hS ?_
                  rotate_left
                  · ((obtain ⟨⟨m0, m1⟩, a0, a1, a2, b0, b1, b2⟩ := (HQ3.out.below hu).1.cells; obtain ⟨x0, x1, _, _⟩ := obj_cells (HQ3.out.below hu).2); go_simp; try (with_reducible rfl))
                  try simp only [puts]
                  refine gv 11 (v := ?_) (fun u hu => ?_) hS ?_
                  rotate_left
                  · ((obtain ⟨⟨m0, m1⟩, a0, a1, a2, b0, b1, b2⟩ := (HQ3.out.below hu).1.cells; obtain ⟨x0, x1, _, _⟩ := obj_cells (HQ3.out.below hu).2); go_simp; try (with_reducible rfl))
                  try simp only [puts]
                  obtain ⟨d0, d1, f0, f1⟩ := obj_cells ho12
                  have k1 := obj_set2 ho12 (.string t1) (.slice A8 tn c8)
                  have k2 := obj_set_other ho13 (Ne.symm ne12_13) (.string t1) (.slice A8 tn c8)
                  have k3 : Below w3.heap.size w3 _ := below_set2 hS hp12 (.string t1) (.slice A8 tn c8)
                  have k4 := vals_by_msg ht8 ho12 (.string t1) (.slice A8 tn c8)
                  refine only (i := 14) rfl (by kernel_rfl) (by rfl) (fun K hK => ?_)
                  go_simp
                  refine hK.out _ _ k3 ?_
                  clear hK
                  try simp only [puts]
                  clear d0 d1 f0 f1 hS
                  generalize ((u.setCell _ _).setCell _ _) = u8 at *
                  obtain ⟨d0, d1, f0, f1⟩ := obj_cells k2
                  have k5 := obj_set_other k1 ne12_13 (.int .i64 e1) (.int .i64 e2)
                  have k6 := obj_set2 k2 (.int .i64 e1) (.int .i64 e2)
                  have k7 : Below w3.heap.size w3 _ := below_set2 k3 hp13 (.int .i64 e1) (.int .i64 e2)
                  have k8 := vals_by_fault k4 k2 (.int .i64 e1) (.int .i64 e2)
                  refine only (i := 15) rfl (by kernel_rfl) (by rfl) (fun K hK => ?_)
                  go_simp
                  refine hK.out _ _ k7 ?_
                  clear hK
                  try simp only [puts]
                  refine wpAnyH_done (by kernel_rfl) (NoPanic.normal ?_) _
                  go_wp2_with fail
                  go_meet
                  exact ⟨p12, p13, A8, c8, rfl, rfl, k7, k5, k8, k6⟩
          · (go_simp; try (with_reducible rfl))
          · intro p12 u' hb ho12 hp12
            replace hp12 := Nat.le_trans (hS.size) hp12
            have hS' : (fun u => Below w3.heap.size w3 u) u' := hbt hS hb
            refine ⟨hS', ?_⟩
            replace ht1 := ht1.below hb
            clear hS hb
            have hS := hS'; clear hS'
            rename World => u
            try simp only [puts]
            refine wpAnyH_ready (rs := [7, 13]) (by kernel_rfl) (by simp) (arm_some (i := 7) 14 #[.agg #[.string m, .slice B lx cx]] rfl (by rfl) (HMP.out _ (HI.out.below (HQ3.out.below hS).1.1)) ?_ ?_ (arm_alloc (i := 13) (.cells #[.int .i64 0, .int .i64 0] 44) rfl (by rfl) ?_ ?_ AllReadyH.nil))
            · (go_simp; try (with_reducible rfl))
            · intro v7 u' hT
              obtain ⟨A7, c7, rfl, ht7, hb⟩ := hT
              have hS' : (fun u => Below w3.heap.size w3 u) u' := hbt hS hb
              refine ⟨hS', ?_⟩
              replace ho12 := obj_below ho12 hb
              replace ht1 := ht1.below hb
              clear hS hb
              have hS := hS'; clear hS'
              rename World => u
              try simp only [puts]
              refine wpAnyH_ready (rs := [8, 13]) (by kernel_rfl) (by simp) (arm_some (i := 8) 13 #[.agg #[.slice A1.1 n c1.1, .slice A1.2 nr c1.2], .agg #[.int .i64 st, .int .i64 v, .slice A la ca], .agg #[.int .i64 st', .int .i64 v', .slice A' lb cb], .agg #[.string m, .slice A7 lx c7]] rfl (by rfl) (HTR.out A1 c1 A7 c7 _ (HK.out.below (HQ3.out.below hS).1.1) ht1 (HA.out.below (HQ3.out.below hS).1.1) (HB.out.below (HQ3.out.below hS).1.1) ht7) ?_ ?_ (arm_alloc (i := 13) (.cells #[.int .i64 0, .int .i64 0] 44) rfl (by rfl) ?_ ?_ AllReadyH.nil))
              · (go_simp; try (with_reducible rfl))
              · intro v8 u' hT
                obtain ⟨A8, c8, rfl, ht8, hb⟩ := hT
                have hS' : (fun u => Below w3.heap.size w3 u) u' := hbt hS hb
                refine ⟨hS', ?_⟩
                replace ho12 := obj_below ho12 hb
                replace ht1 := ht1.below hb
                replace ht7 := ht7.below hb
                clear hS hb
                have hS := hS'; clear hS'
                rename World => u
                try simp only [puts]
                refine gv 9 (v := ?_) (fun u hu => ?_) hS ?_
                rotate_left
                · ((obtain ⟨⟨m0, m1⟩, a0, a1, a2, b0, b1, b2⟩ := (HQ3.out.below hu).1.cells; obtain ⟨x0, x1, _, _⟩ := obj_cells (HQ3.out.below hu).2); go_simp; try (with_reducible rfl))
                try simp only [puts]
                refine gv 10 (v := ?_) (fun u hu => ?_) hS ?_
                rotate_left
                · ((obtain ⟨⟨m0, m1⟩, a0, a1, a2, b0, b1, b2⟩ := (HQ3.out.below hu).1.cells; obtain ⟨x0, x1, _, _⟩ := obj_cells (HQ3.out.below hu).2); go_simp; try (with_reducible rfl))
                try simp only [puts]
                refine gv 11 (v := ?_) (fun u hu => ?_) hS ?_
                rotate_left
                · ((obtain ⟨⟨m0, m1⟩, a0, a1, a2, b0, b1, b2⟩ := (HQ3.out.below hu).1.cells; obtain ⟨x0, x1, _, _⟩ := obj_cells (HQ3.out.below hu).2); go_simp; try (with_reducible rfl))
                try simp only [puts]
                refine wpAnyH_ready (rs := [13]) (by kernel_rfl) (by simp) (arm_alloc (i := 13) (.cells #[.int .i64 0, .int .i64 0] 44) rfl (by rfl) ?_ ?_ AllReadyH.nil)
                · (go_simp; try (with_reducible rfl))
                · intro p13 u' hb ho13 hp13
                  have ne12_13 : p12 ≠ p13 := by have := obj_lt ho12; omega
                  replace hp13 := Nat.le_trans (hS.size) hp13
                  have hS' : (fun u => Below w3.heap.size w3 u) u' := hbt hS hb
                  refine ⟨hS', ?_⟩
                  replace ho12 := obj_below ho12 hb
                  replace ht1 := ht1.below hb
                  replace ht7 := ht7.below hb
                  replace ht8 := ht8.below hb
                  clear hS hb
                  have hS := hS'; clear hS'
                  rename World => u
                  try simp only [puts]
                  obtain ⟨d0, d1, f0, f1⟩ := obj_cells ho12
                  have k1 := obj_set2 ho12 (.string t1) (.slice A8 tn c8)
                  have k2 := obj_set_other ho13 (Ne.symm ne12_13) (.string t1) (.slice A8 tn c8)
                  have k3 : Below w3.heap.size w3 _ := below_set2 hS hp12 (.string t1) (.slice A8 tn c8)
                  have k4 := vals_by_msg ht8 ho12 (.string t1) (.slice A8 tn c8)
                  refine only (i := 14) rfl (by kernel_rfl) (by rfl) (fun K hK => ?_)
                  go_simp
                  refine hK.out _ _ k3 ?_
                  clear hK
                  try simp only [puts]
                  clear d0 d1 f0 f1 hS
                  generalize ((u.setCell _ _).setCell _ _) = u8 at *
                  obtain ⟨d0, d1, f0, f1⟩ := obj_cells k2
                  have k5 := obj_set_other k1 ne12_13 (.int .i64 e1) (.int .i64 e2)
                  have k6 := obj_set2 k2 (.int .i64 e1) (.int .i64 e2)
                  have k7 : Below w3.heap.size w3 _ := below_set2 k3 hp13 (.int .i64 e1) (.int .i64 e2)
                  have k8 := vals_by_fault k4 k2 (.int .i64 e1) (.int .i64 e2)
                  refine only (i := 15) rfl (by kernel_rfl) (by rfl) (fun K hK => ?_)
                  go_simp
                  refine hK.out _ _ k7 ?_
                  clear hK
                  try simp only [puts]
                  refine wpAnyH_done (by kernel_rfl) (NoPanic.normal ?_) _
                  go_wp2_with fail
                  go_meet
                  exact ⟨p12, p13, A8, c8, rfl, rfl, k7, k5, k8, k6⟩
              · (go_simp; try (with_reducible rfl))
              · intro p13 u' hb ho13 hp13
                have ne12_13 : p12 ≠ p13 := by have := obj_lt ho12; omega
                replace hp13 := Nat.le_trans (hS.size) hp13
                have hS' : (fun u => Below w3.heap.size w3 u) u' := hbt hS hb
                refine ⟨hS', ?_⟩
                replace ho12 := obj_below ho12 hb
                replace ht1 := ht1.below hb
                replace ht7 := ht7.below hb
                clear hS hb
                have hS := hS'; clear hS'
                rename World => u
                try simp only [puts]
                refine wpAnyH_ready (rs := [8]) (by kernel_rfl) (by simp) (arm_some (i := 8) 13 #[.agg #[.slice A1.1 n c1.1, .slice A1.2 nr c1.2], .agg #[.int .i64 st, .int .i64 v, .slice A la ca], .agg #[.int .i64 st', .int .i64 v', .slice A' lb cb], .agg #[.string m, .slice A7 lx c7]] rfl (by rfl) (HTR.out A1 c1 A7 c7 _ (HK.out.below (HQ3.out.below hS).1.1) ht1 (HA.out.below (HQ3.out.below hS).1.1) (HB.out.below (HQ3.out.below hS).1.1) ht7) ?_ ?_ AllReadyH.nil)
                · (go_simp; try (with_reducible rfl))
                · intro v8 u' hT
                  obtain ⟨A8, c8, rfl, ht8, hb⟩ := hT
                  have hS' : (fun u => Below w3.heap.size w3 u) u' := hbt hS hb
                  refine ⟨hS', ?_⟩
                  replace ho12 := obj_below ho12 hb
                  replace ho13 := obj_below ho13 hb
                  replace ht1 := ht1.below hb
                  replace ht7 := ht7.below hb
                  clear hS hb
                  have hS := hS'; clear hS'
                  rename World => u
                  try simp only [puts]
                  refine gv 9 (v := ?_) (fun u hu => ?_) hS ?_
                  rotate_left
                  · ((obtain ⟨⟨m0, m1⟩, a0, a1, a2, b0, b1, b2⟩ := (HQ3.out.below hu).1.cells; obtain ⟨x0, x1, _, _⟩ := obj_cells (HQ3.out.below hu).2); go_simp; try (with_reducible rfl))
                  try simp only [puts]
                  refine gv 10 (v := ?_) (fun u hu => ?_) hS ?_
                  rotate_left
                  · ((obtain ⟨⟨m0, m1⟩, a0, a1, a2, b0, b1, b2⟩ := (HQ3.out.below hu).1.cells; obtain ⟨x0, x1, _, _⟩ := obj_cells (HQ3.out.below hu).2); go_simp; try (with_reducible rfl))
                  try simp only [puts]
                  refine gv 11 (v := ?_) (fun u hu => ?_) hS ?_
                  rotate_left
                  · ((obtain ⟨⟨m0, m1⟩, a0, a1, a2, b0, b1, b2⟩ := (HQ3.out.below hu).1.cells; obtain ⟨x0, x1, _, _⟩ := obj_cells (HQ3.out.below hu).2); go_simp; try (with_reducible rfl))
                  try simp only [puts]
                  obtain ⟨d0, d1, f0, f1⟩ := obj_cells ho12
                  have k1 := obj_set2 ho12 (.string t1) (.slice A8 tn c8)
                  have k2 := obj_set_other ho13 (Ne.symm ne12_13) (.string t1) (.slice A8 tn c8)
                  have k3 : Below w3.heap.size w3 _ := below_set2 hS hp12 (.string t1) (.slice A8 tn c8)
                  have k4 := vals_by_msg ht8 ho12 (.string t1) (.slice A8 tn c8)
                  refine only (i := 14) rfl (by kernel_rfl) (by rfl) (fun K hK => ?_)
                  go_simp
                  refine hK.out _ _ k3 ?_
                  clear hK
                  try simp only [puts]
                  clear d0 d1 f0 f1 hS
                  generalize ((u.setCell _ _).setCell _ _) = u8 at *
                  obtain ⟨d0, d1, f0, f1⟩ := obj_cells k2
                  have k5 := obj_set_other k1 ne12_13 (.int .i64 e1) (.int .i64 e2)
                  have k6 := obj_set2 k2 (.int .i64 e1) (.int .i64 e2)
                  have k7 : Below w3.heap.size w3 _ := below_set2 k3 hp13 (.int .i64 e1) (.int .i64 e2)
                  have k8 := vals_by_fault k4 k2 (.int .i64 e1) (.int .i64 e2)
                  refine only (i := 15) rfl (by kernel_rfl) (by rfl) (fun K hK => ?_)
                  go_simp
                  refine hK.out _ _ k7 ?_
                  clear hK
                  try simp only [puts]
                  refine wpAnyH_done (by kernel_rfl) (NoPanic.normal ?_) _
                  go_wp2_with fail
                  go_meet
                  exact ⟨p12, p13, A8, c8, rfl, rfl, k7, k5, k8, k6⟩
            · (go_simp; try (with_reducible rfl))
            · intro p13 u' hb ho13 hp13
              have ne12_13 : p12 ≠ p13 := by have := obj_lt ho12; omega
              replace hp13 := Nat.le_trans (hS.size) hp13
              have hS' : (fun u => Below w3.heap.size w3 u) u' := hbt hS hb
              refine ⟨hS', ?_⟩
              replace ho12 := obj_below ho12 hb
              replace ht1 := ht1.below hb
              clear hS hb
              have hS := hS'; clear hS'
              rename World => u
              try simp only [puts]
              refine wpAnyH_ready (rs := [7]) (by kernel_rfl) (by simp) (arm_some (i := 7) 14 #[.agg #[.string m, .slice B lx cx]] rfl (by rfl) (HMP.out _ (HI.out.below (HQ3.out.below hS).1.1)) ?_ ?_ AllReadyH.nil)
              · (go_simp; try (with_reducible rfl))
              · intro v7 u' hT
                obtain ⟨A7, c7, rfl, ht7, hb⟩ := hT
                have hS' : (fun u => Below w3.heap.size w3 u) u' := hbt hS hb
                refine ⟨hS', ?_⟩
                replace ho12 := obj_below ho12 hb
                replace ho13 := obj_below ho13 hb
                replace ht1 := ht1.below hb
                clear hS hb
                have hS := hS'; clear hS'
                rename World => u
                try simp only [puts]
                refine wpAnyH_ready (rs := [8]) (by kernel_rfl) (by simp) (arm_some (i := 8) 13 #[.agg #[.slice A1.1 n c1.1, .slice A1.2 nr c1.2], .agg #[.int .i64 st, .int .i64 v, .slice A la ca], .agg #[.int .i64 st', .int .i64 v', .slice A' lb cb], .agg #[.string m, .slice A7 lx c7]] rfl (by rfl) (HTR.out A1 c1 A7 c7 _ (HK.out.below (HQ3.out.below hS).1.1) ht1 (HA.out.below (HQ3.out.below hS).1.1) (HB.out.below (HQ3.out.below hS).1.1) ht7) ?_ ?_ AllReadyH.nil)
                · (go_simp; try (with_reducible rfl))
                · intro v8 u' hT
                  obtain ⟨A8, c8, rfl, ht8, hb⟩ := hT
                  have hS' : (fun u => Below w3.heap.size w3 u) u' := hbt hS hb
                  refine ⟨hS', ?_⟩
                  replace ho12 := obj_below ho12 hb
                  replace ho13 := obj_below ho13 hb
                  replace ht1 := ht1.below hb
                  replace ht7 := ht7.below hb
                  clear hS hb
                  have hS := hS'; clear hS'
                  rename World => u
                  try simp only [puts]
                  refine gv 9 (v := ?_) (fun u hu => ?_) hS ?_
                  rotate_left
                  · ((obtain ⟨⟨m0, m1⟩, a0, a1, a2, b0, b1, b2⟩ := (HQ3.out.below hu).1.cells; obtain ⟨x0, x1, _, _⟩ := obj_cells (HQ3.out.below hu).2); go_simp; try (with_reducible rfl))
                  try simp only [puts]
                  refine gv 10 (v := ?_) (fun u hu => ?_) hS ?_
                  rotate_left
                  · ((obtain ⟨⟨m0, m1⟩, a0, a1, a2, b0, b1, b2⟩ := (HQ3.out.below hu).1.cells; obtain ⟨x0, x1, _, _⟩ := obj_cells (HQ3.out.below hu).2); go_simp; try (with_reducible rfl))
                  try simp only [puts]
                  refine gv 11 (v := ?_) (fun u hu => ?_) hS ?_
                  rotate_left
                  · ((obtain ⟨⟨m0, m1⟩, a0, a1, a2, b0, b1, b2⟩ := (HQ3.out.below hu).1.cells; obtain ⟨x0, x1, _, _⟩ := obj_cells (HQ3.out.below hu).2); go_simp; try (with_reducible rfl))
                  try simp only [puts]
                  obtain ⟨d0, d1, f0, f1⟩ := obj_cells ho12
                  have k1 := obj_set2 ho12 (.string t1) (.slice A8 tn c8)
                  have k2 := obj_set_other ho13 (Ne.symm ne12_13) (.string t1) (.slice A8 tn c8)
                  have k3 : Below w3.heap.size w3 _ := below_set2 hS hp12 (.string t1) (.slice A8 tn c8)
                  have k4 := vals_by_msg ht8 ho12 (.string t1) (.slice A8 tn c8)
                  refine only (i := 14) rfl (by kernel_rfl) (by rfl) (fun K hK => ?_)
                  go_simp
                  refine hK.out _ _ k3 ?_
                  clear hK
                  try simp only [puts]
                  clear d0 d1 f0 f1 hS
                  generalize ((u.setCell _ _).setCell _ _) = u8 at *
                  obtain ⟨d0, d1, f0, f1⟩ := obj_cells k2
                  have k5 := obj_set_other k1 ne12_13 (.int .i64 e1) (.int .i64 e2)
                  have k6 := obj_set2 k2 (.int .i64 e1) (.int .i64 e2)
                  have k7 : Below w3.heap.size w3 _ := below_set2 k3 hp13 (.int .i64 e1) (.int .i64 e2)
                  have k8 := vals_by_fault k4 k2 (.int .i64 e1) (.int .i64 e2)
                  refine only (i := 15) rfl (by kernel_rfl) (by rfl) (fun K hK => ?_)
                  go_simp
                  refine hK.out _ _ k7 ?_
                  clear hK
                  try simp only [puts]
                  refine wpAnyH_done (by kernel_rfl) (NoPanic.normal ?_) _
                  go_wp2_with fail
                  go_meet
                  exact ⟨p12, p13, A8, c8, rfl, rfl, k7, k5, k8, k6⟩
          · (go_simp; try (with_reducible rfl))
          · intro p13 u' hb ho13 hp13
            replace hp13 := Nat.le_trans (hS.size) hp13
            have hS' : (fun u => Below w3.heap.size w3 u) u' := hbt hS hb
            refine ⟨hS', ?_⟩
            replace ht1 := ht1.below hb
            clear hS hb
            have hS := hS'; clear hS'
            rename World => u
            try simp only [puts]
            refine wpAnyH_ready (rs := [7, 12]) (by kernel_rfl) (by simp) (arm_some (i := 7) 14 #[.agg #[.string m, .slice B lx cx]] rfl (by rfl) (HMP.out _ (HI.out.below (HQ3.out.below hS).1.1)) ?_ ?_ (arm_alloc (i := 12) (.cells #[.string ⟨#[]⟩, .slice none 0 0] 41) rfl (by rfl) ?_ ?_ AllReadyH.nil))
            · (go_simp; try (with_reducible rfl))
            · intro v7 u' hT
              obtain ⟨A7, c7, rfl, ht7, hb⟩ := hT
              have hS' : (fun u => Below w3.heap.size w3 u) u' := hbt hS hb
              refine ⟨hS', ?_⟩
              replace ho13 := obj_below ho13 hb
              replace ht1 := ht1.below hb
              clear hS hb
              have hS := hS'; clear hS'
              rename World => u
              try simp only [puts]
              refine wpAnyH_ready (rs := [8, 12]) (by kernel_rfl) (by simp) (arm_some (i := 8) 13 #[.agg #[.slice A1.1 n c1.1, .slice A1.2 nr c1.2], .agg #[.int .i64 st, .int .i64 v, .slice A la ca], .agg #[.int .i64 st', .int .i64 v', .slice A' lb cb], .agg #[.string m, .slice A7 lx c7]] rfl (by rfl) (HTR.out A1 c1 A7 c7 _ (HK.out.below (HQ3.out.below hS).1.1) ht1 (HA.out.below (HQ3.out.below hS).1.1) (HB.out.below (HQ3.out.below hS).1.1) ht7) ?_ ?_ (arm_alloc (i := 12) (.cells #[.string ⟨#[]⟩, .slice none 0 0] 41) rfl (by rfl) ?_ ?_ AllReadyH.nil))
              · (go_simp; try (with_reducible rfl))
              · intro v8 u' hT
                obtain ⟨A8, c8, rfl, ht8, hb⟩ := hT
                have hS' : (fun u => Below w3.heap.size w3 u) u' := hbt hS hb
                refine ⟨hS', ?_⟩
                replace ho13 := obj_below ho13 hb
                replace ht1 := ht1.below hb
                replace ht7 := ht7.below hb
                clear hS hb
                have hS := hS'; clear hS'
                rename World => u
                try simp only [puts]
                refine gv 9 (v := ?_) (fun u hu => ?_) hS ?_
                rotate_left
                · ((obtain ⟨⟨m0, m1⟩, a0, a1, a2, b0, b1, b2⟩ := (HQ3.out.below hu).1.cells; obtain ⟨x0, x1, _, _⟩ := obj_cells (HQ3.out.below hu).2); go_simp; try (with_reducible rfl))
                try simp only [puts]
                refine gv 10 (v := ?_) (fun u hu => ?_) hS ?_
                rotate_left
                · ((obtain ⟨⟨m0, m1⟩, a0, a1, a2, b0, b1, b2⟩ := (HQ3.out.below hu).1.cells; obtain ⟨x0, x1, _, _⟩ := obj_cells (HQ3.out.below hu).2); go_simp; try (with_reducible rfl))
                try simp only [puts]
                refine gv 11 (v := ?_) (fun u hu => ?_) hS ?_
                rotate_left
                · ((obtain ⟨⟨m0, m1⟩, a0, a1, a2, b0, b1, b2⟩ := (HQ3.out.below hu).1.cells; obtain ⟨x0, x1, _, _⟩ := obj_cells (HQ3.out.below hu).2); go_simp; try (with_reducible rfl))
                try simp only [puts]
                refine wpAnyH_ready (rs := [12]) (by kernel_rfl) (by simp) (arm_alloc (i := 12) (.cells #[.string ⟨#[]⟩, .slice none 0 0] 41) rfl (by rfl) ?_ ?_ AllReadyH.nil)
                · (go_simp; try (with_reducible rfl))
                · intro p12 u' hb ho12 hp12
                  have ne12_13 : p12 ≠ p13 := by have := obj_lt ho13; omega
                  replace hp12 := Nat.le_trans (hS.size) hp12
                  have hS' : (fun u => Below w3.heap.size w3 u) u' := hbt hS hb
                  refine ⟨hS', ?_⟩
                  replace ho13 := obj_below ho13 hb
                  replace ht1 := ht1.below hb
                  replace ht7 := ht7.below hb
                  replace ht8 := ht8.below hb
                  clear hS hb
                  have hS := hS'; clear hS'
                  rename World => u
                  try simp only [puts]
                  obtain ⟨d0, d1, f0, f1⟩ := obj_cells ho12
                  have k1 := obj_set2 ho12 (.string t1) (.slice A8 tn c8)
                  have k2 := obj_set_other ho13 (Ne.symm ne12_13) (.string t1) (.slice A8 tn c8)
                  have k3 : Below w3.heap.size w3 _ := below_set2 hS hp12 (.string t1) (.slice A8 tn c8)
                  have k4 := vals_by_msg ht8 ho12 (.string t1) (.slice A8 tn c8)
                  refine only (i := 14) rfl (by kernel_rfl) (by rfl) (fun K hK => ?_)
                  go_simp
                  refine hK.out _ _ k3 ?_
                  clear hK
                  try simp only [puts]
                  clear d0 d1 f0 f1 hS
                  generalize ((u.setCell _ _).setCell _ _) = u8 at *
                  obtain ⟨d0, d1, f0, f1⟩ := obj_cells k2
                  have k5 := obj_set_other k1 ne12_13 (.int .i64 e1) (.int .i64 e2)
                  have k6 := obj_set2 k2 (.int .i64 e1) (.int .i64 e2)
                  have k7 : Below w3.heap.size w3 _ := below_set2 k3 hp13 (.int .i64 e1) (.int .i64 e2)
                  have k8 := vals_by_fault k4 k2 (.int .i64 e1) (.int .i64 e2)
                  refine only (i := 15) rfl (by kernel_rfl) (by rfl) (fun K hK => ?_)
                  go_simp
                  refine hK.out _ _ k7 ?_
                  clear hK
                  try simp only [puts]
                  refine wpAnyH_done (by kernel_rfl) (NoPanic.normal ?_) _
                  go_wp2_with fail
                  go_meet
                  exact ⟨p12, p13, A8, c8, rfl, rfl, k7, k5, k8, k6⟩
              · (go_simp; try (with_reducible rfl))
              · intro p12 u' hb ho12 hp12
                have ne12_13 : p12 ≠ p13 := by have := obj_lt ho13; omega
                replace hp12 := Nat.le_trans (hS.size) hp12
                have hS' : (fun u => Below w3.heap.size w3 u) u' := hbt hS hb
                refine ⟨hS', ?_⟩
                replace ho13 := obj_below ho13 hb
                replace ht1 := ht1.below hb
                replace ht7 := ht7.below hb
                clear hS hb
                have hS := hS'; clear hS'
                rename World => u
                try simp only [puts]
                refine wpAnyH_ready (rs := [8]) (by kernel_rfl) (by simp) (arm_some (i := 8) 13 #[.agg #[.slice A1.1 n c1.1, .slice A1.2 nr c1.2], .agg #[.int .i64 st, .int .i64 v, .slice A la ca], .agg #[.int .i64 st', .int .i64 v', .slice A' lb cb], .agg #[.string m, .slice A7 lx c7]] rfl (by rfl) (HTR.out A1 c1 A7 c7 _ (HK.out.below (HQ3.out.below hS).1.1) ht1 (HA.out.below (HQ3.out.below hS).1.1) (HB.out.below (HQ3.out.below hS).1.1) ht7) ?_ ?_ AllReadyH.nil)
                · (go_simp; try (with_reducible rfl))
                · intro v8 u' hT
                  obtain ⟨A8, c8, rfl, ht8, hb⟩ := hT
                  have hS' : (fun u => Below w3.heap.size w3 u) u' := hbt hS hb
                  refine ⟨hS', ?_⟩
                  replace ho13 := obj_below ho13 hb
                  replace ho12 := obj_below ho12 hb
                  replace ht1 := ht1.below hb
                  replace ht7 := ht7.below hb
                  clear hS hb
                  have hS := hS'; clear hS'
                  rename World => u
                  try simp only [puts]
                  refine gv 9 (v := ?_) (fun u hu => ?_) hS ?_
                  rotate_left
                  · ((obtain ⟨⟨m0, m1⟩, a0, a1, a2, b0, b1, b2⟩ := (HQ3.out.below hu).1.cells; obtain ⟨x0, x1, _, _⟩ := obj_cells (HQ3.out.below hu).2); go_simp; try (with_reducible rfl))
                  try simp only [puts]
                  refine gv 10 (v := ?_) (fun u hu => ?_) hS ?_
                  rotate_left
                  · ((obtain ⟨⟨m0, m1⟩, a0, a1, a2, b0, b1, b2⟩ := (HQ3.out.below hu).1.cells; obtain ⟨x0, x1, _, _⟩ := obj_cells (HQ3.out.below hu).2); go_simp; try (with_reducible rfl))
                  try simp only [puts]
                  refine gv 11 (v := ?_) (fun u hu => ?_) hS ?_
                  rotate_left
                  · ((obtain ⟨⟨m0, m1⟩, a0, a1, a2, b0, b1, b2⟩ := (HQ3.out.below hu).1.cells; obtain ⟨x0, x1, _, _⟩ := obj_cells (HQ3.out.below hu).2); go_simp; try (with_reducible rfl))
                  try simp only [puts]
                  obtain ⟨d0, d1, f0, f1⟩ := obj_cells ho12
                  have k1 := obj_set2 ho12 (.string t1) (.slice A8 tn c8)
                  have k2 := obj_set_other ho13 (Ne.symm ne12_13) (.string t1) (.slice A8 tn c8)
                  have k3 : Below w3.heap.size w3 _ := below_set2 hS hp12 (.string t1) (.slice A8 tn c8)
                  have k4 := vals_by_msg ht8 ho12 (.string t1) (.slice A8 tn c8)
                  refine only (i := 14) rfl (by kernel_rfl) (by rfl) (fun K hK => ?_)
                  go_simp
                  refine hK.out _ _ k3 ?_
                  clear hK
                  try simp only [puts]
                  clear d0 d1 f0 f1 hS
                  generalize ((u.setCell _ _).setCell _ _) = u8 at *
                  obtain ⟨d0, d1, f0, f1⟩ := obj_cells k2
                  have k5 := obj_set_other k1 ne12_13 (.int .i64 e1) (.int .i64 e2)
                  have k6 := obj_set2 k2 (.int .i64 e1) (.int .i64 e2)
                  have k7 : Below w3.heap.size w3 _ := below_set2 k3 hp13 (.int .i64 e1) (.int .i64 e2)
                  have k8 := vals_by_fault k4 k2 (.int .i64 e1) (.int .i64 e2)
                  refine only (i := 15) rfl (by kernel_rfl) (by rfl) (fun K hK => ?_)
                  go_simp
                  refine hK.out _ _ k7 ?_
                  clear hK
                  try simp only [puts]
                  refine wpAnyH_done (by kernel_rfl) (NoPanic.normal ?_) _
                  go_wp2_with fail
                  go_meet
                  exact ⟨p12, p13, A8, c8, rfl, rfl, k7, k5, k8, k6⟩
            · (go_simp; try (with_reducible rfl))
            · intro p12 u' hb ho12 hp12
              have ne12_13 : p12 ≠ p13 := by have := obj_lt ho13; omega
              replace hp12 := Nat.le_trans (hS.size) hp12
              have hS' : (fun u => Below w3.heap.size w3 u) u' := hbt hS hb
              refine ⟨hS', ?_⟩
              replace ho13 := obj_below ho13 hb
              replace ht1 := ht1.below hb
              clear hS hb
              have hS := hS'; clear hS'
              rename World => u
              try simp only [puts]
              refine wpAnyH_ready (rs := [7]) (by kernel_rfl) (by simp) (arm_some (i := 7) 14 #[.agg #[.string m, .slice B lx cx]] rfl (by rfl) (HMP.out _ (HI.out.below (HQ3.out.below hS).1.1)) ?_ ?_ AllReadyH.nil)
              · (go_simp; try (with_reducible rfl))
              · intro v7 u' hT
                obtain ⟨A7, c7, rfl, ht7, hb⟩ := hT
                have hS' : (fun u => Below w3.heap.size w3 u) u' := hbt hS hb
                refine ⟨hS', ?_⟩
                replace ho13 := obj_below ho13 hb
                replace ho12 := obj_below ho12 hb
                replace ht1 := ht1.below hb
                clear hS hb
                have hS := hS'; clear hS'
                rename World => u
                try simp only [puts]
                refine wpAnyH_ready (rs := [8]) (by kernel_rfl) (by simp) (arm_some (i := 8) 13 #[.agg #[.slice A1.1 n c1.1, .slice A1.2 nr c1.2], .agg #[.int .i64 st, .int .i64 v, .slice A la ca], .agg #[.int .i64 st', .int .i64 v', .slice A' lb cb], .agg #[.string m, .slice A7 lx c7]] rfl (by rfl) (HTR.out A1 c1 A7 c7 _ (HK.out.below (HQ3.out.below hS).1.1) ht1 (HA.out.below (HQ3.out.below hS).1.1) (HB.out.below (HQ3.out.below hS).1.1) ht7) ?_ ?_ AllReadyH.nil)
                · (go_simp; try (with_reducible rfl))
                · intro v8 u' hT
                  obtain ⟨A8, c8, rfl, ht8, hb⟩ := hT
                  have hS' : (fun u => Below w3.heap.size w3 u) u' := hbt hS hb
                  refine ⟨hS', ?_⟩
                  replace ho13 := obj_below ho13 hb
                  replace ho12 := obj_below ho12 hb
                  replace ht1 := ht1.below hb
                  replace ht7 := ht7.below hb
                  clear hS hb
                  have hS := hS'; clear hS'
                  rename World => u
                  try simp only [puts]
                  refine gv 9 (v := ?_) (fun u hu => ?_) hS ?_
                  rotate_left
                  · ((obtain ⟨⟨m0, m1⟩, a0, a1, a2, b0, b1, b2⟩ := (HQ3.out.below hu).1.cells; obtain ⟨x0, x1, _, _⟩ := obj_cells (HQ3.out.below hu).2); go_simp; try (with_reducible rfl))
                  try simp only [puts]
                  refine gv 10 (v := ?_) (fun u hu => ?_) hS ?_
                  rotate_left
                  · ((obtain ⟨⟨m0, m1⟩, a0, a1, a2, b0, b1, b2⟩ := (HQ3.out.below hu).1.cells; obtain ⟨x0, x1, _, _⟩ := obj_cells (HQ3.out.below hu).2); go_simp; try (with_reducible rfl))
                  try simp only [puts]
                  refine gv 11 (v := ?_) (fun u hu => ?_) hS ?_
                  rotate_left
                  · ((obtain ⟨⟨m0, m1⟩, a0, a1, a2, b0, b1, b2⟩ := (HQ3.out.below hu).1.cells; obtain ⟨x0, x1, _, _⟩ := obj_cells (HQ3.out.below hu).2); go_simp; try (with_reducible rfl))
                  try simp only [puts]
                  obtain ⟨d0, d1, f0, f1⟩ := obj_cells ho12
                  have k1 := obj_set2 ho12 (.string t1) (.slice A8 tn c8)
                  have k2 := obj_set_other ho13 (Ne.symm ne12_13) (.string t1) (.slice A8 tn c8)
                  have k3 : Below w3.heap.size w3 _ := below_set2 hS hp12 (.string t1) (.slice A8 tn c8)
                  have k4 := vals_by_msg ht8 ho12 (.string t1) (.slice A8 tn c8)
                  refine only (i := 14) rfl (by kernel_rfl) (by rfl) (fun K hK => ?_)
                  go_simp
                  refine hK.out _ _ k3 ?_
                  clear hK
                  try simp only [puts]
                  clear d0 d1 f0 f1 hS
                  generalize ((u.setCell _ _).setCell _ _) = u8 at *
                  obtain ⟨d0, d1, f0, f1⟩ := obj_cells k2
                  have k5 := obj_set_other k1 ne12_13 (.int .i64 e1) (.int .i64 e2)
                  have k6 := obj_set2 k2 (.int .i64 e1) (.int .i64 e2)
                  have k7 : Below w3.heap.size w3 _ := below_set2 k3 hp13 (.int .i64 e1) (.int .i64 e2)
                  have k8 := vals_by_fault k4 k2 (.int .i64 e1) (.int .i64 e2)
                  refine only (i := 15) rfl (by kernel_rfl) (by rfl) (fun K hK => ?_)
                  go_simp
                  refine hK.out _ _ k7 ?_
                  clear hK
                  try simp only [puts]
                  refine wpAnyH_done (by kernel_rfl) (NoPanic.normal ?_) _
                  go_wp2_with fail
                  go_meet
                  exact ⟨p12, p13, A8, c8, rfl, rfl, k7, k5, k8, k6⟩
        · (go_simp; try (with_reducible rfl))
        · intro p12 u' hb ho12 hp12
          replace hp12 := Nat.le_trans (hS.size) hp12
          have hS' : (fun u => Below w3.heap.size w3 u) u' := hbt hS hb
          refine ⟨hS', ?_⟩
          clear hS hb
          have hS := hS'; clear hS'
          rename World => u
          try simp only [puts]
          refine wpAnyH_ready (rs := [1, 13]) (by kernel_rfl) (by simp) (arm_some (i := 1) 9 #[.agg #[.slice X n cM, .slice Y nr cR]] rfl (by rfl) (HCP.out _ (HM.out.below (HQ3.out.below hS).1.1) (HR.out.below (HQ3.out.below hS).1.1)) ?_ ?_ (arm_alloc (i := 13) (.cells #[.int .i64 0, .int .i64 0] 44) rfl (by rfl) ?_ ?_ AllReadyH.nil))
          · (go_simp; try (with_reducible rfl))
          · intro v1 u' hT
            obtain ⟨A1, c1, rfl, ht1, hb⟩ := hT
            have hS' : (fun u => Below w3.heap.size w3 u) u' := hbt hS hb
            refine ⟨hS', ?_⟩
            replace ho12 := obj_below ho12 hb
            clear hS hb
            have hS := hS'; clear hS'
            rename World => u
            try simp only [puts]
            refine wpAnyH_ready (rs := [7, 13]) (by kernel_rfl) (by simp) (arm_some (i := 7) 14 #[.agg #[.string m, .slice B lx cx]] rfl (by rfl) (HMP.out _ (HI.out.below (HQ3.out.below hS).1.1)) ?_ ?_ (arm_alloc (i := 13) (.cells #[.int .i64 0, .int .i64 0] 44) rfl (by rfl) ?_ ?_ AllReadyH.nil))
            · (go_simp; try (with_reducible rfl))
            · intro v7 u' hT
              obtain ⟨A7, c7, rfl, ht7, hb⟩ := hT
              have hS' : (fun u => Below w3.heap.size w3 u) u' := hbt hS hb
              refine ⟨hS', ?_⟩
              replace ho12 := obj_below ho12 hb
              replace ht1 := ht1.below hb
              clear hS hb
              have hS := hS'; clear hS'
              rename World => u
              try simp only [puts]
              refine wpAnyH_ready (rs := [8, 13]) (by kernel_rfl) (by simp) (arm_some (i := 8) 13 #[.agg #[.slice A1.1 n c1.1, .slice A1.2 nr c1.2], .agg #[.int .i64 st, .int .i64 v, .slice A la ca], .agg #[.int .i64 st', .int .i64 v', .slice A' lb cb], .agg #[.string m, .slice A7 lx c7]] rfl (by rfl) (HTR.out A1 c1 A7 c7 _ (HK.out.below (HQ3.out.below hS).1.1) ht1 (HA.out.below (HQ3.out.below hS).1.1) (HB.out.below (HQ3.out.below hS).1.1) ht7) ?_ ?_ (arm_alloc (i := 13) (.cells #[.int .i64 0, .int .i64 0] 44) rfl (by rfl) ?_ ?_ AllReadyH.nil))
              · (go_simp; try (with_reducible rfl))
              · intro v8 u' hT
                obtain ⟨A8, c8, rfl, ht8, hb⟩ := hT
                have hS' : (fun u => Below w3.heap.size w3 u) u' := hbt hS hb
                refine ⟨hS', ?_⟩
                replace ho12 := obj_below ho12 hb
                replace ht1 := ht1.below hb
                replace ht7 := ht7.below hb
                clear hS hb
                have hS := hS'; clear hS'
                rename World => u
                try simp only [puts]
                refine gv 9 (v := ?_) (fun u hu => ?_) hS ?_
                rotate_left
                · ((obtain ⟨⟨m0, m1⟩, a0, a1, a2, b0, b1, b2⟩ := (HQ3.out.below hu).1.cells; obtain ⟨x0, x1, _, _⟩ := obj_cells (HQ3.out.below hu).2); go_simp; try (with_reducible rfl))
                try simp only [puts]
                refine gv 10 (v := ?_) (fun u hu => ?_) hS ?_
                rotate_left
                · ((obtain ⟨⟨m0, m1⟩, a0, a1, a2, b0, b1, b2⟩ := (HQ3.out.below hu).1.cells; obtain ⟨x0, x1, _, _⟩ := obj_cells (HQ3.out.below hu).2); go_simp; try (with_reducible rfl))
                try simp only [puts]
                refine gv 11 (v := ?_) (fun u hu => ?_) hS ?_
                rotate_left
                · ((obtain ⟨⟨m0, m1⟩, a0, a1, a2, b0, b1, b2⟩ := (HQ3.out.below hu).1.cells; obtain ⟨x0, x1, _, _⟩ := obj_cells (HQ3.out.below hu).2); go_simp; try (with_reducible rfl))
                try simp only [puts]
                refine wpAnyH_ready (rs := [13]) (by kernel_rfl) (by simp) (arm_alloc (i := 13) (.cells #[.int .i64 0, .int .i64 0] 44) rfl (by rfl) ?_ ?_ AllReadyH.nil)
                · (go_simp; try (with_reducible rfl))
                · intro p13 u' hb ho13 hp13
                  have ne12_13 : p12 ≠ p13 := by have := obj_lt ho12; omega
                  replace hp13 := Nat.le_trans (hS.size) hp13
                  have hS' : (fun u => Below w3.heap.size w3 u) u' := hbt hS hb
                  refine ⟨hS', ?_⟩
                  replace ho12 := obj_below ho12 hb
                  replace ht1 := ht1.below hb
                  replace ht7 := ht7.below hb
                  replace ht8 := ht8.below hb
                  clear hS hb
                  have hS := hS'; clear hS'
                  rename World => u
                  try simp only [puts]
                  obtain ⟨d0, d1, f0, f1⟩ := obj_cells ho12
                  have k1 := obj_set2 ho12 (.string t1) (.slice A8 tn c8)
                  have k2 := obj_set_other ho13 (Ne.symm ne12_13) (.string t1) (.slice A8 tn c8)
                  have k3 : Below w3.heap.size w3 _ := below_set2 hS hp12 (.string t1) (.slice A8 tn c8)
                  have k4 := vals_by_msg ht8 ho12 (.string t1) (.slice A8 tn c8)
                  refine only (i := 14) rfl (by kernel_rfl) (by rfl) (fun K hK => ?_)
                  go_simp
                  refine hK.out _ _ k3 ?_
                  clear hK
                  try simp only [puts]
                  clear d0 d1 f0 f1 hS
                  generalize ((u.setCell _ _).setCell _ _) = u8 at *
                  obtain ⟨d0, d1, f0, f1⟩ := obj_cells k2
                  have k5 := obj_set_other k1 ne12_13 (.int .i64 e1) (.int .i64 e2)
                  have k6 := obj_set2 k2 (.int .i64 e1) (.int .i64 e2)
                  have k7 : Below w3.heap.size w3 _ := below_set2 k3 hp13 (.int .i64 e1) (.int .i64 e2)
                  have k8 := vals_by_fault k4 k2 (.int .i64 e1) (.int .i64 e2)
                  refine only (i := 15) rfl (by kernel_rfl) (by rfl) (fun K hK => ?_)
                  go_simp
                  refine hK.out _ _ k7 ?_
                  clear hK
                  try simp only [puts]
                  refine wpAnyH_done (by kernel_rfl) (NoPanic.normal ?_) _
                  go_wp2_with fail
                  go_meet
                  exact ⟨p12, p13, A8, c8, rfl, rfl, k7, k5, k8, k6⟩
              · (go_simp; try (with_reducible rfl))
              · intro p13 u' hb ho13 hp13
                have ne12_13 : p12 ≠ p13 := by have := obj_lt ho12; omega
                replace hp13 := Nat.le_trans (hS.size) hp13
                have hS' : (fun u => Below w3.heap.size w3 u) u' := hbt hS hb
                refine ⟨hS', ?_⟩
                replace ho12 := obj_below ho12 hb
                replace ht1 := ht1.below hb
                replace ht7 := ht7.below hb
                clear hS hb
                have hS := hS'; clear hS'
                rename World => u
                try simp only [puts]
                refine wpAnyH_ready (rs := [8]) (by kernel_rfl) (by simp) (arm_some (i := 8) 13 #[.agg #[.slice A1.1 n c1.1, .slice A1.2 nr c1.2], .agg #[.int .i64 st, .int .i64 v, .slice A la ca], .agg #[.int .i64 st', .int .i64 v', .slice A' lb cb], .agg #[.string m, .slice A7 lx c7]] rfl (by rfl) (HTR.out A1 c1 A7 c7 _ (HK.out.below (HQ3.out.below hS).1.1) ht1 (HA.out.below (HQ3.out.below hS).1.1) (HB.out.below (HQ3.out.below hS).1.1) ht7) ?_ ?_ AllReadyH.nil)
                · (go_simp; try (with_reducible rfl))
                · intro v8 u' hT
                  obtain ⟨A8, c8, rfl, ht8, hb⟩ := hT
                  have hS' : (fun u => Below w3.heap.size w3 u) u' := hbt hS hb
                  refine ⟨hS', ?_⟩
                  replace ho12 := obj_below ho12 hb
                  replace ho13 := obj_below ho13 hb
                  replace ht1 := ht1.below hb
                  replace ht7 := ht7.below hb
                  clear hS hb
                  have hS := hS'; clear hS'
                  rename World => u
                  try simp only [puts]
                  refine gv 9 (v := ?_) (fun u hu => ?_) hS ?_
                  rotate_left
                  · ((obtain ⟨⟨m0, m1⟩, a0, a1, a2, b0, b1, b2⟩ := (HQ3.out.below hu).1.cells; obtain ⟨x0, x1, _, _⟩ := obj_cells (HQ3.out.below hu).2); go_simp; try (with_reducible rfl))
                  try simp only [puts]
                  refine gv 10 (v := ?_) (fun u hu => ?_) hS ?_
                  rotate_left
                  · ((obtain ⟨⟨m0, m1⟩, a0, a1, a2, b0, b1, b2⟩ := (HQ3.out.below hu).1.cells; obtain ⟨x0, x1, _, _⟩ := obj_cells (HQ3.out.below hu).2); go_simp; try (with_reducible rfl))
                  try simp only [puts]
                  refine gv 11 (v := ?_) (fun u hu => ?_) hS ?_
                  rotate_left
                  · ((obtain ⟨⟨m0, m1⟩, a0, a1, a2, b0, b1, b2⟩ := (HQ3.out.below hu).1.cells; obtain ⟨x0, x1, _, _⟩ := obj_cells (HQ3.out.below hu).2); go_simp; try (with_reducible rfl))
                  try simp only [puts]
                  obtain ⟨d0, d1, f0, f1⟩ := obj_cells ho12
                  have k1 := obj_set2 ho12 (.string t1) (.slice A8 tn c8)
                  have k2 := obj_set_other ho13 (Ne.symm ne12_13) (.string t1) (.slice A8 tn c8)
                  have k3 : Below w3.heap.size w3 _ := below_set2 hS hp12 (.string t1) (.slice A8 tn c8)
                  have k4 := vals_by_msg ht8 ho12 (.string t1) (.slice A8 tn c8)
                  refine only (i := 14) rfl (by kernel_rfl) (by rfl) (fun K hK => ?_)
                  go_simp
                  refine hK.out _ _ k3 ?_
                  clear hK
                  try simp only [puts]
                  clear d0 d1 f0 f1 hS
                  generalize ((u.setCell _ _).setCell _ _) = u8 at *
                  obtain ⟨d0, d1, f0, f1⟩ := obj_cells k2
                  have k5 := obj_set_other k1 ne12_13 (.int .i64 e1) (.int .i64 e2)
                  have k6 := obj_set2 k2 (.int .i64 e1) (.int .i64 e2)
                  have k7 : Below w3.heap.size w3 _ := below_set2 k3 hp13 (.int .i64 e1) (.int .i64 e2)
                  have k8 := vals_by_fault k4 k2 (.int .i64 e1) (.int .i64 e2)
                  refine only (i := 15) rfl (by kernel_rfl) (by rfl) (fun K hK => ?_)
                  go_simp
                  refine hK.out _ _ k7 ?_
                  clear hK
                  try simp only [puts]
                  refine wpAnyH_done (by kernel_rfl) (NoPanic.normal ?_) _
                  go_wp2_with fail
                  go_meet
                  exact ⟨p12, p13, A8, c8, rfl, rfl, k7, k5, k8, k6⟩
            · (go_simp; try (with_reducible rfl))
            · intro p13 u' hb ho13 hp13
              have ne12_13 : p12 ≠ p13 := by have := obj_lt ho12; omega
              replace hp13 := Nat.le_trans (hS.size) hp13
              have hS' : (fun u => Below w3.heap.size w3 u) u' := hbt hS hb
              refine ⟨hS', ?_⟩
              replace ho12 := obj_below ho12 hb
              replace ht1 := ht1.below hb
              clear hS hb
              have hS := hS'; clear hS'
              rename World => u
              try simp only [puts]
              refine wpAnyH_ready (rs := [7]) (by kernel_rfl) (by simp) (arm_some (i := 7) 14 #[.agg #[.string m, .slice B lx cx]] rfl (by rfl) (HMP.out _ (HI.out.below (HQ3.out.below hS).1.1)) ?_ ?_ AllReadyH.nil)
              · (go_simp; try (with_reducible rfl))
              · intro v7 u' hT
                obtain ⟨A7, c7, rfl, ht7, hb⟩ := hT
                have hS' : (fun u => Below w3.heap.size w3 u) u' := hbt hS hb
                refine ⟨hS', ?_⟩
                replace ho12 := obj_below ho12 hb
                replace ho13 := obj_below ho13 hb
                replace ht1 := ht1.below hb
                clear hS hb
                have hS := hS'; clear hS'
                rename World => u
                try simp only [puts]
                refine wpAnyH_ready (rs := [8]) (by kernel_rfl) (by simp) (arm_some (i := 8) 13 #[.agg #[.slice A1.1 n c1.1, .slice A1.2 nr c1.2], .agg #[.int .i64 st, .int .i64 v, .slice A la ca], .agg #[.int .i64 st', .int .i64 v', .slice A' lb cb], .agg #[.string m, .slice A7 lx c7]] rfl (by rfl) (HTR.out A1 c1 A7 c7 _ (HK.out.below (HQ3.out.below hS).1.1) ht1 (HA.out.below (HQ3.out.below hS).1.1) (HB.out.below (HQ3.out.below hS).1.1) ht7) ?_ ?_ AllReadyH.nil)
                · (go_simp; try (with_reducible rfl))
                · intro v8 u' hT
                  obtain ⟨A8, c8, rfl, ht8, hb⟩ := hT
                  have hS' : (fun u => Below w3.heap.size w3 u) u' := hbt hS hb
                  refine ⟨hS', ?_⟩
                  replace ho12 := obj_below ho12 hb
                  replace ho13 := obj_below ho13 hb
                  replace ht1 := ht1.below hb
                  replace ht7 := ht7.below hb
                  clear hS hb
                  have hS := hS'; clear hS'
                  rename World => u
                  try simp only [puts]
                  refine gv 9 (v := ?_) (fun u hu => ?_) hS ?_
                  rotate_left
                  · ((obtain ⟨⟨m0, m1⟩, a0, a1, a2, b0, b1, b2⟩ := (HQ3.out.below hu).1.cells; obtain ⟨x0, x1, _, _⟩ := obj_cells (HQ3.out.below hu).2); go_simp; try (with_reducible rfl))
                  try simp only [puts]
                  refine gv 10 (v := ?_) (fun u hu => ?_) hS ?_
                  rotate_left
                  · ((obtain ⟨⟨m0, m1⟩, a0, a1, a2, b0, b1, b2⟩ := (HQ3.out.below hu).1.cells; obtain ⟨x0, x1, _, _⟩ := obj_cells (HQ3.out.below hu).2); go_simp; try (with_reducible rfl))
                  try simp only [puts]
                  refine gv 11 (v := ?_) (fun u hu => ?_) hS ?_
                  rotate_left
                  · ((obtain ⟨⟨m0, m1⟩, a0, a1, a2, b0, b1, b2⟩ := (HQ3.out.below hu).1.cells; obtain ⟨x0, x1, _, _⟩ := obj_cells (HQ3.out.below hu).2); go_simp; try (with_reducible rfl))
                  try simp only [puts]
                  obtain ⟨d0, d1, f0, f1⟩ := obj_cells ho12
                  have k1 := obj_set2 ho12 (.string t1) (.slice A8 tn c8)
                  have k2 := obj_set_other ho13 (Ne.symm ne12_13) (.string t1) (.slice A8 tn c8)
                  have k3 : Below w3.heap.size w3 _ := below_set2 hS hp12 (.string t1) (.slice A8 tn c8)
                  have k4 := vals_by_msg ht8 ho12 (.string t1) (.slice A8 tn c8)
                  refine only (i := 14) rfl (by kernel_rfl) (by rfl) (fun K hK => ?_)
                  go_simp
                  refine hK.out _ _ k3 ?_
                  clear hK
                  try simp only [puts]
                  clear d0 d1 f0 f1 hS
                  generalize ((u.setCell _ _).setCell _ _) = u8 at *
                  obtain ⟨d0, d1, f0, f1⟩ := obj_cells k2
                  have k5 := obj_set_other k1 ne12_13 (.int .i64 e1) (.int .i64 e2)
                  have k6 := obj_set2 k2 (.int .i64 e1) (.int .i64 e2)
                  have k7 : Below w3.heap.size w3 _ := below_set2 k3 hp13 (.int .i64 e1) (.int .i64 e2)
                  have k8 := vals_by_fault k4 k2 (.int .i64 e1) (.int .i64 e2)
                  refine only (i := 15) rfl (by kernel_rfl) (by rfl) (fun K hK => ?_)
                  go_simp
                  refine hK.out _ _ k7 ?_
                  clear hK
                  try simp only [puts]
                  refine wpAnyH_done (by kernel_rfl) (NoPanic.normal ?_) _
                  go_wp2_with fail
                  go_meet
                  exact ⟨p12, p13, A8, c8, rfl, rfl, k7, k5, k8, k6⟩
          · (go_simp; try (with_reducible rfl))
          · intro p13 u' hb ho13 hp13
            have ne12_13 : p12 ≠ p13 := by have := obj_lt ho12; omega
            replace hp13 := Nat.le_trans (hS.size) hp13
            have hS' : (fun u => Below w3.heap.size w3 u) u' := hbt hS hb
            refine ⟨hS', ?_⟩
            replace ho12 := obj_below ho12 hb
            clear hS hb
            have hS := hS'; clear hS'
            rename World => u
            try simp only [puts]
            refine wpAnyH_ready (rs := [1]) (by kernel_rfl) (by simp) (arm_some (i := 1) 9 #[.agg #[.slice X n cM, .slice Y nr cR]] rfl (by rfl) (HCP.out _ (HM.out.below (HQ3.out.below hS).1.1) (HR.out.below (HQ3.out.below hS).1.1)) ?_ ?_ AllReadyH.nil)
            · (go_simp; try (with_reducible rfl))
            · intro v1 u' hT
              obtain ⟨A1, c1, rfl, ht1, hb⟩ := hT
              have hS' : (fun u => Below w3.heap.size w3 u) u' := hbt hS hb
              refine ⟨hS', ?_⟩
              replace ho12 := obj_below ho12 hb
              replace ho13 := obj_below ho13 hb
              clear hS hb
              have hS := hS'; clear hS'
              rename World => u
              try simp only [puts]
              refine wpAnyH_ready (rs := [7]) (by kernel_rfl) (by simp) (arm_some (i := 7) 14 #[.agg #[.string m, .slice B lx cx]] rfl (by rfl) (HMP.out _ (HI.out.below (HQ3.out.below hS).1.1)) ?_ ?_ AllReadyH.nil)
              · (go_simp; try (with_reducible rfl))
              · intro v7 u' hT
                obtain ⟨A7, c7, rfl, ht7, hb⟩ := hT
                have hS' : (fun u => Below w3.heap.size w3 u) u' := hbt hS hb
                refine ⟨hS', ?_⟩
                replace ho12 := obj_below ho12 hb
                replace ho13 := obj_below ho13 hb
                replace ht1 := ht1.below hb
                clear hS hb
                have hS := hS'; clear hS'
                rename World => u
                try simp only [puts]
                refine wpAnyH_ready (rs := [8]) (by kernel_rfl) (by simp) (arm_some (i := 8) 13 #[.agg #[.slice A1.1 n c1.1, .slice A1.2 nr c1.2], .agg #[.int .i64 st, .int .i64 v, .slice A la ca], .agg #[.int .i64 st', .int .i64 v', .slice A' lb cb], .agg #[.string m, .slice A7 lx c7]] rfl (by rfl) (HTR.out A1 c1 A7 c7 _ (HK.out.below (HQ3.out.below hS).1.1) ht1 (HA.out.below (HQ3.out.below hS).1.1) (HB.out.below (HQ3.out.below hS).1.1) ht7) ?_ ?_ AllReadyH.nil)
                · (go_simp; try (with_reducible rfl))
                · intro v8 u' hT
                  obtain ⟨A8, c8, rfl, ht8, hb⟩ := hT
                  have hS' : (fun u => Below w3.heap.size w3 u) u' := hbt hS hb
                  refine ⟨hS', ?_⟩
                  replace ho12 := obj_below ho12 hb
                  replace ho13 := obj_below ho13 hb
                  replace ht1 := ht1.below hb
                  replace ht7 := ht7.below hb
                  clear hS hb
                  have hS := hS'; clear hS'
                  rename World => u
                  try simp only [puts]
                  refine gv 9 (v := ?_) (fun u hu => ?_) hS ?_
                  rotate_left
                  · ((obtain ⟨⟨m0, m1⟩, a0, a1, a2, b0, b1, b2⟩ := (HQ3.out.below hu).1.cells; obtain ⟨x0, x1, _, _⟩ := obj_cells (HQ3.out.below hu).2); go_simp; try (with_reducible rfl))
                  try simp only [puts]
                  refine gv 10 (v := ?_) (fun u hu => ?_) hS ?_
                  rotate_left
                  · ((obtain ⟨⟨m0, m1⟩, a0, a1, a2, b0, b1, b2⟩ := (HQ3.out.below hu).1.cells; obtain ⟨x0, x1, _, _⟩ := obj_cells (HQ3.out.below hu).2); go_simp; try (with_reducible rfl))
                  try simp only [puts]
                  refine gv 11 (v := ?_) (fun u hu => ?_) hS ?_
                  rotate_left
                  · ((obtain ⟨⟨m0, m1⟩, a0, a1, a2, b0, b1, b2⟩ := (HQ3.out.below hu).1.cells; obtain ⟨x0, x1, _, _⟩ := obj_cells (HQ3.out.below hu).2); go_simp; try (with_reducible rfl))
                  try simp only [puts]
                  obtain ⟨d0, d1, f0, f1⟩ := obj_cells ho12
                  have k1 := obj_set2 ho12 (.string t1) (.slice A8 tn c8)
                  have k2 := obj_set_other ho13 (Ne.symm ne12_13) (.string t1) (.slice A8 tn c8)
                  have k3 : Below w3.heap.size w3 _ := below_set2 hS hp12 (.string t1) (.slice A8 tn c8)
                  have k4 := vals_by_msg ht8 ho12 (.string t1) (.slice A8 tn c8)
                  refine only (i := 14) rfl (by kernel_rfl) (by rfl) (fun K hK => ?_)
                  go_simp
                  refine hK.out _ _ k3 ?_
                  clear hK
                  try simp only [puts]
                  clear d0 d1 f0 f1 hS
                  generalize ((u.setCell _ _).setCell _ _) = u8 at *
                  obtain ⟨d0, d1, f0, f1⟩ := obj_cells k2
                  have k5 := obj_set_other k1 ne12_13 (.int .i64 e1) (.int .i64 e2)
                  have k6 := obj_set2 k2 (.int .i64 e1) (.int .i64 e2)
                  have k7 : Below w3.heap.size w3 _ := below_set2 k3 hp13 (.int .i64 e1) (.int .i64 e2)
                  have k8 := vals_by_fault k4 k2 (.int .i64 e1) (.int .i64 e2)
                  refine only (i := 15) rfl (by kernel_rfl) (by rfl) (fun K hK => ?_)
                  go_simp
                  refine hK.out _ _ k7 ?_
                  clear hK
                  try simp only [puts]
                  refine wpAnyH_done (by kernel_rfl) (NoPanic.normal ?_) _
                  go_wp2_with fail
                  go_meet
                  exact ⟨p12, p13, A8, c8, rfl, rfl, k7, k5, k8, k6⟩
        · (go_simp; try (with_reducible rfl))
        · intro p13 u' hb ho13 hp13
          replace hp13 := Nat.le_trans (hS.size) hp13
          have hS' : (fun u => Below w3.heap.size w3 u) u' := hbt hS hb
          refine ⟨hS', ?_⟩
          clear hS hb
          have hS := hS'; clear hS'
          rename World => u
          try simp only [puts]
          refine wpAnyH_ready (rs := [1, 12]) (by kernel_rfl) (by simp) (arm_some (i := 1) 9 #[.agg #[.slice X n cM, .slice Y nr cR]] rfl (by rfl) (HCP.out _ (HM.out.below (HQ3.out.below hS).1.1) (HR.out.below (HQ3.out.below hS).1.1)) ?_ ?_ (arm_alloc (i := 12) (.cells #[.string ⟨#[]⟩, .slice none 0 0] 41) rfl (by rfl) ?_ ?_ AllReadyH.nil))
          · (go_simp; try (with_reducible rfl))
          · intro v1 u' hT
            obtain ⟨A1, c1, rfl, ht1, hb⟩ := hT
            have hS' : (fun u => Below w3.heap.size w3 u) u' := hbt hS hb
            refine ⟨hS', ?_⟩
            replace ho13 := obj_below ho13 hb
            clear hS hb
            have hS := hS'; clear hS'
            rename World => u
            try simp only [puts]
            refine wpAnyH_ready (rs := [7, 12]) (by kernel_rfl) (by simp) (arm_some (i := 7) 14 #[.agg #[.string m, .slice B lx cx]] rfl (by rfl) (HMP.out _ (HI.out.below (HQ3.out.below hS).1.1)) ?_ ?_ (arm_alloc (i := 12) (.cells #[.string ⟨#[]⟩, .slice none 0 0] 41) rfl (by rfl) ?_ ?_ AllReadyH.nil))
            · (go_simp; try (with_reducible rfl))
            · intro v7 u' hT
              obtain ⟨A7, c7, rfl, ht7, hb⟩ := hT
              have hS' : (fun u => Below w3.heap.size w3 u) u' := hbt hS hb
              refine ⟨hS', ?_⟩
              replace ho13 := obj_below ho13 hb
              replace ht1 := ht1.below hb
              clear hS hb
              have hS := hS'; clear hS'
              rename World => u
              try simp only [puts]
              refine wpAnyH_ready (rs := [8, 12]) (by kernel_rfl) (by simp) (arm_some (i := 8) 13 #[.agg #[.slice A1.1 n c1.1, .slice A1.2 nr c1.2], .agg #[.int .i64 st, .int .i64 v, .slice A la ca], .agg #[.int .i64 st', .int .i64 v', .slice A' lb cb], .agg #[.string m, .slice A7 lx c7]] rfl (by rfl) (HTR.out A1 c1 A7 c7 _ (HK.out.below (HQ3.out.below hS).1.1) ht1 (HA.out.below (HQ3.out.below hS).1.1) (HB.out.below (HQ3.out.below hS).1.1) ht7) ?_ ?_ (arm_alloc (i := 12) (.cells #[.string ⟨#[]⟩, .slice none 0 0] 41) rfl (by rfl) ?_ ?_ AllReadyH.nil))
              · (go_simp; try (with_reducible rfl))
              · intro v8 u' hT
                obtain ⟨A8, c8, rfl, ht8, hb⟩ := hT
                have hS' : (fun u => Below w3.heap.size w3 u) u' := hbt hS hb
                refine ⟨hS', ?_⟩
                replace ho13 := obj_below ho13 hb
                replace ht1 := ht1.below hb
                replace ht7 := ht7.below hb
                clear hS hb
                have hS := hS'; clear hS'
                rename World => u
                try simp only [puts]
                refine gv 9 (v := ?_) (fun u hu => ?_) hS ?_
                rotate_left
                · ((obtain ⟨⟨m0, m1⟩, a0, a1, a2, b0, b1, b2⟩ := (HQ3.out.below hu).1.cells; obtain ⟨x0, x1, _, _⟩ := obj_cells (HQ3.out.below hu).2); go_simp; try (with_reducible rfl))
                try simp only [puts]
                refine gv 10 (v := ?_) (fun u hu => ?_) hS ?_
                rotate_left
                · ((obtain ⟨⟨m0, m1⟩, a0, a1, a2, b0, b1, b2⟩ := (HQ3.out.below hu).1.cells; obtain ⟨x0, x1, _, _⟩ := obj_cells (HQ3.out.below hu).2); go_simp; try (with_reducible rfl))
                try simp only [puts]
                refine gv 11 (v := ?_) (fun u hu => ?_) hS ?_
                rotate_left
                · ((obtain ⟨⟨m0, m1⟩, a0, a1, a2, b0, b1, b2⟩ := (HQ3.out.below hu).1.cells; obtain ⟨x0, x1, _, _⟩ := obj_cells (HQ3.out.below hu).2); go_simp; try (with_reducible rfl))
                try simp only [puts]
                refine wpAnyH_ready (rs := [12]) (by kernel_rfl) (by simp) (arm_alloc (i := 12) (.cells #[.string ⟨#[]⟩, .slice none 0 0] 41) rfl (by rfl) ?_ ?_ AllReadyH.nil)
                · (go_simp; try (with_reducible rfl))
                · intro p12 u' hb ho12 hp12
                  have ne12_13 : p12 ≠ p13 := by have := obj_lt ho13; omega
                  replace hp12 := Nat.le_trans (hS.size) hp12
                  have hS' : (fun u => Below w3.heap.size w3 u) u' := hbt hS hb
                  refine ⟨hS', ?_⟩
                  replace ho13 := obj_below ho13 hb
                  replace ht1 := ht1.below hb
                  replace ht7 := ht7.below hb
                  replace ht8 := ht8.below hb
                  clear hS hb
                  have hS := hS'; clear hS'
                  rename World => u
                  try simp only [puts]
                  obtain ⟨d0, d1, f0, f1⟩ := obj_cells ho12
                  have k1 := obj_set2 ho12 (.string t1) (.slice A8 tn c8)
                  have k2 := obj_set_other ho13 (Ne.symm ne12_13) (.string t1) (.slice A8 tn c8)
                  have k3 : Below w3.heap.size w3 _ := below_set2 hS hp12 (.string t1) (.slice A8 tn c8)
                  have k4 := vals_by_msg ht8 ho12 (.string t1) (.slice A8 tn c8)
                  refine only (i := 14) rfl (by kernel_rfl) (by rfl) (fun K hK => ?_)
                  go_simp
                  refine hK.out _ _ k3 ?_
                  clear hK
                  try simp only [puts]
                  clear d0 d1 f0 f1 hS
                  generalize ((u.setCell _ _).setCell _ _) = u8 at *
                  obtain ⟨d0, d1, f0, f1⟩ := obj_cells k2
                  have k5 := obj_set_other k1 ne12_13 (.int .i64 e1) (.int .i64 e2)
                  have k6 := obj_set2 k2 (.int .i64 e1) (.int .i64 e2)
                  have k7 : Below w3.heap.size w3 _ := below_set2 k3 hp13 (.int .i64 e1) (.int .i64 e2)
                  have k8 := vals_by_fault k4 k2 (.int .i64 e1) (.int .i64 e2)
                  refine only (i := 15) rfl (by kernel_rfl) (by rfl) (fun K hK => ?_)
                  go_simp
                  refine hK.out _ _ k7 ?_
                  clear hK
                  try simp only [puts]
                  refine wpAnyH_done (by kernel_rfl) (NoPanic.normal ?_) _
                  go_wp2_with fail
                  go_meet
                  exact ⟨p12, p13, A8, c8, rfl, rfl, k7, k5, k8, k6⟩
              · (go_simp; try (with_reducible rfl))
              · intro p12 u' hb ho12 hp12
                have ne12_13 : p12 ≠ p13 := by have := obj_lt ho13; omega
                replace hp12 := Nat.le_trans (hS.size) hp12
                have hS' : (fun u => Below w3.heap.size w3 u) u' := hbt hS hb
                refine ⟨hS', ?_⟩
                replace ho13 := obj_below ho13 hb
                replace ht1 := ht1.below hb
                replace ht7 := ht7.below hb
                clear hS hb
                have hS := hS'; clear hS'
                rename World => u
                try simp only [puts]
                refine wpAnyH_ready (rs := [8]) (by kernel_rfl) (by simp) (arm_some (i := 8) 13 #[.agg #[.slice A1.1 n c1.1, .slice A1.2 nr c1.2], .agg #[.int .i64 st, .int .i64 v, .slice A la ca], .agg #[.int .i64 st', .int .i64 v', .slice A' lb cb], .agg #[.string m, .slice A7 lx c7]] rfl (by rfl) (HTR.out A1 c1 A7 c7 _ (HK.out.below (HQ3.out.below hS).1.1) ht1 (HA.out.below (HQ3.out.below hS).1.1) (HB.out.below (HQ3.out.below hS).1.1) ht7) ?_ ?_ AllReadyH.nil)
                · (go_simp; try (with_reducible rfl))
                · intro v8 u' hT
                  obtain ⟨A8, c8, rfl, ht8, hb⟩ := hT
                  have hS' : (fun u => Below w3.heap.size w3 u) u' := hbt hS hb
                  refine ⟨hS', ?_⟩
                  replace ho13 := obj_below ho13 hb
                  replace ho12 := obj_below ho12 hb
                  replace ht1 := ht1.below hb
                  replace ht7 := ht7.below hb
                  clear hS hb
                  have hS := hS'; clear hS'
                  rename World => u
                  try simp only [puts]
                  refine gv 9 (v := ?_) (fun u hu => ?_) hS ?_
                  rotate_left
                  · ((obtain ⟨⟨m0, m1⟩, a0, a1, a2, b0, b1, b2⟩ := (HQ3.out.below hu).1.cells; obtain ⟨x0, x1, _, _⟩ := obj_cells (HQ3.out.below hu).2); go_simp; try (with_reducible rfl))
                  try simp only [puts]
                  refine gv 10 (v := ?_) (fun u hu => ?_) hS ?_
                  rotate_left
                  · ((obtain ⟨⟨m0, m1⟩, a0, a1, a2, b0, b1, b2⟩ := (HQ3.out.below hu).1.cells; obtain ⟨x0, x1, _, _⟩ := obj_cells (HQ3.out.below hu).2); go_simp; try (with_reducible rfl))
                  try simp only [puts]
                  refine gv 11 (v := ?_) (fun u hu => ?_) hS ?_
                  rotate_left
                  · ((obtain ⟨⟨m0, m1⟩, a0, a1, a2, b0, b1, b2⟩ := (HQ3.out.below hu).1.cells; obtain ⟨x0, x1, _, _⟩ := obj_cells (HQ3.out.below hu).2); go_simp; try (with_reducible rfl))
                  try simp only [puts]
                  obtain ⟨d0, d1, f0, f1⟩ := obj_cells ho12
                  have k1 := obj_set2 ho12 (.string t1) (.slice A8 tn c8)
                  have k2 := obj_set_other ho13 (Ne.symm ne12_13) (.string t1) (.slice A8 tn c8)
                  have k3 : Below w3.heap.size w3 _ := below_set2 hS hp12 (.string t1) (.slice A8 tn c8)
                  have k4 := vals_by_msg ht8 ho12 (.string t1) (.slice A8 tn c8)
                  refine only (i := 14) rfl (by kernel_rfl) (by rfl) (fun K hK => ?_)
                  go_simp
                  refine hK.out _ _ k3 ?_
                  clear hK
                  try simp only [puts]
                  clear d0 d1 f0 f1 hS
                  generalize ((u.setCell _ _).setCell _ _) = u8 at *
                  obtain ⟨d0, d1, f0, f1⟩ := obj_cells k2
                  have k5 := obj_set_other k1 ne12_13 (.int .i64 e1) (.int .i64 e2)
                  have k6 := obj_set2 k2 (.int .i64 e1) (.int .i64 e2)
                  have k7 : Below w3.heap.size w3 _ := below_set2 k3 hp13 (.int .i64 e1) (.int .i64 e2)
                  have k8 := vals_by_fault k4 k2 (.int .i64 e1) (.int .i64 e2)
                  refine only (i := 15) rfl (by kernel_rfl) (by rfl) (fun K hK => ?_)
                  go_simp
                  refine hK.out _ _ k7 ?_
                  clear hK
                  try simp only [puts]
                  refine wpAnyH_done (by kernel_rfl) (NoPanic.normal ?_) _
                  go_wp2_with fail
                  go_meet
                  exact ⟨p12, p13, A8, c8, rfl, rfl, k7, k5, k8, k6⟩
            · (go_simp; try (with_reducible rfl))
            · intro p12 u' hb ho12 hp12
              have ne12_13 : p12 ≠ p13 := by have := obj_lt ho13; omega
              replace hp12 := Nat.le_trans (hS.size) hp12
              have hS' : (fun u => Below w3.heap.size w3 u) u' := hbt hS hb
              refine ⟨hS', ?_⟩
              replace ho13 := obj_below ho13 hb
              replace ht1 := ht1.below hb
              clear hS hb
              have hS := hS'; clear hS'
              rename World => u
              try simp only [puts]
              refine wpAnyH_ready (rs := [7]) (by kernel_rfl) (by simp) (arm_some (i := 7) 14 #[.agg #[.string m, .slice B lx cx]] rfl (by rfl) (HMP.out _ (HI.out.below (HQ3.out.below hS).1.1)) ?_ ?_ AllReadyH.nil)
              · (go_simp; try (with_reducible rfl))
              · intro v7 u' hT
                obtain ⟨A7, c7, rfl, ht7, hb⟩ := hT
                have hS' : (fun u => Below w3.heap.size w3 u) u' := hbt hS hb
                refine ⟨hS', ?_⟩
                replace ho13 := obj_below ho13 hb
                replace ho12 := obj_below ho12 hb
                replace ht1 := ht1.below hb
                clear hS hb
                have hS := hS'; clear hS'
                rename World => u
                try simp only [puts]
                refine wpAnyH_ready (rs := [8]) (by kernel_rfl) (by simp) (arm_some (i := 8) 13 #[.agg #[.slice A1.1 n c1.1, .slice A1.2 nr c1.2], .agg #[.int .i64 st, .int .i64 v, .slice A la ca], .agg #[.int .i64 st', .int .i64 v', .slice A' lb cb], .agg #[.string m, .slice A7 lx c7]] rfl (by rfl) (HTR.out A1 c1 A7 c7 _ (HK.out.below (HQ3.out.below hS).1.1) ht1 (HA.out.below (HQ3.out.below hS).1.1) (HB.out.below (HQ3.out.below hS).1.1) ht7) ?_ ?_ AllReadyH.nil)
                · (go_simp; try (with_reducible rfl))
                · intro v8 u' hT
                  obtain ⟨A8, c8, rfl, ht8, hb⟩ := hT
                  have hS' : (fun u => Below w3.heap.size w3 u) u' := hbt hS hb
                  refine ⟨hS', ?_⟩
                  replace ho13 := obj_below ho13 hb
                  replace ho12 := obj_below ho12 hb
                  replace ht1 := ht1.below hb
                  replace ht7 := ht7.below hb
                  clear hS hb
                  have hS := hS'; clear hS'
                  rename World => u
                  try simp only [puts]
                  refine gv 9 (v := ?_) (fun u hu => ?_) hS ?_
                  rotate_left
                  · ((obtain ⟨⟨m0, m1⟩, a0, a1, a2, b0, b1, b2⟩ := (HQ3.out.below hu).1.cells; obtain ⟨x0, x1, _, _⟩ := obj_cells (HQ3.out.below hu).2); go_simp; try (with_reducible rfl))
                  try simp only [puts]
                  refine gv 10 (v := ?_) (fun u hu => ?_) hS ?_
                  rotate_left
                  · ((obtain ⟨⟨m0, m1⟩, a0, a1, a2, b0, b1, b2⟩ := (HQ3.out.below hu).1.cells; obtain ⟨x0, x1, _, _⟩ := obj_cells (HQ3.out.below hu).2); go_simp; try (with_reducible rfl))
                  try simp only [puts]
                  refine gv 11 (v := ?_) (fun u hu => ?_) hS ?_
                  rotate_left
                  · ((obtain ⟨⟨m0, m1⟩, a0, a1, a2, b0, b1, b2⟩ := (HQ3.out.below hu).1.cells; obtain ⟨x0, x1, _, _⟩ := obj_cells (HQ3.out.below hu).2); go_simp; try (with_reducible rfl))
                  try simp only [puts]
                  obtain ⟨d0, d1, f0, f1⟩ := obj_cells ho12
                  have k1 := obj_set2 ho12 (.string t1) (.slice A8 tn c8)
                  have k2 := obj_set_other ho13 (Ne.symm ne12_13) (.string t1) (.slice A8 tn c8)
                  have k3 : Below w3.heap.size w3 _ := below_set2 hS hp12 (.string t1) (.slice A8 tn c8)
                  have k4 := vals_by_msg ht8 ho12 (.string t1) (.slice A8 tn c8)
                  refine only (i := 14) rfl (by kernel_rfl) (by rfl) (fun K hK => ?_)
                  go_simp
                  refine hK.out _ _ k3 ?_
                  clear hK
                  try simp only [puts]
                  clear d0 d1 f0 f1 hS
                  generalize ((u.setCell _ _).setCell _ _) = u8 at *
                  obtain ⟨d0, d1, f0, f1⟩ := obj_cells k2
                  have k5 := obj_set_other k1 ne12_13 (.int .i64 e1) (.int .i64 e2)
                  have k6 := obj_set2 k2 (.int .i64 e1) (.int .i64 e2)
                  have k7 : Below w3.heap.size w3 _ := below_set2 k3 hp13 (.int .i64 e1) (.int .i64 e2)
                  have k8 := vals_by_fault k4 k2 (.int .i64 e1) (.int .i64 e2)
                  refine only (i := 15) rfl (by kernel_rfl) (by rfl) (fun K hK => ?_)
                  go_simp
                  refine hK.out _ _ k7 ?_
                  clear hK
                  try simp only [puts]
                  refine wpAnyH_done (by kernel_rfl) (NoPanic.normal ?_) _
                  go_wp2_with fail
                  go_meet
                  exact ⟨p12, p13, A8, c8, rfl, rfl, k7, k5, k8, k6⟩
          · (go_simp; try (with_reducible rfl))
          · intro p12 u' hb ho12 hp12
            have ne12_13 : p12 ≠ p13 := by have := obj_lt ho13; omega
            replace hp12 := Nat.le_trans (hS.size) hp12
            have hS' : (fun u => Below w3.heap.size w3 u) u' := hbt hS hb
            refine ⟨hS', ?_⟩
            replace ho13 := obj_below ho13 hb
            clear hS hb
            have hS := hS'; clear hS'
            rename World => u
            try simp only [puts]
            refine wpAnyH_ready (rs := [1]) (by kernel_rfl) (by simp) (arm_some (i := 1) 9 #[.agg #[.slice X n cM, .slice Y nr cR]] rfl (by rfl) (HCP.out _ (HM.out.below (HQ3.out.below hS).1.1) (HR.out.below (HQ3.out.below hS).1.1)) ?_ ?_ AllReadyH.nil)
            · (go_simp; try (with_reducible rfl))
            · intro v1 u' hT
              obtain ⟨A1, c1, rfl, ht1, hb⟩ := hT
              have hS' : (fun u => Below w3.heap.size w3 u) u' := hbt hS hb
              refine ⟨hS', ?_⟩
              replace ho13 := obj_below ho13 hb
              replace ho12 := obj_below ho12 hb
              clear hS hb
              have hS := hS'; clear hS'
              rename World => u
              try simp only [puts]
              refine wpAnyH_ready (rs := [7]) (by kernel_rfl) (by simp) (arm_some (i := 7) 14 #[.agg #[.string m, .slice B lx cx]] rfl (by rfl) (HMP.out _ (HI.out.below (HQ3.out.below hS).1.1)) ?_ ?_ AllReadyH.nil)
              · (go_simp; try (with_reducible rfl))
              · intro v7 u' hT
                obtain ⟨A7, c7, rfl, ht7, hb⟩ := hT
                have hS' : (fun u => Below w3.heap.size w3 u) u' := hbt hS hb
                refine ⟨hS', ?_⟩
                replace ho13 := obj_below ho13 hb
                replace ho12 := obj_below ho12 hb
                replace ht1 := ht1.below hb
                clear hS hb
                have hS := hS'; clear hS'
                rename World => u
                try simp only [puts]
                refine wpAnyH_ready (rs := [8]) (by kernel_rfl) (by simp) (arm_some (i := 8) 13 #[.agg #[.slice A1.1 n c1.1, .slice A1.2 nr c1.2], .agg #[.int .i64 st, .int .i64 v, .slice A la ca], .agg #[.int .i64 st', .int .i64 v', .slice A' lb cb], .agg #[.string m, .slice A7 lx c7]] rfl (by rfl) (HTR.out A1 c1 A7 c7 _ (HK.out.below (HQ3.out.below hS).1.1) ht1 (HA.out.below (HQ3.out.below hS).1.1) (HB.out.below (HQ3.out.below hS).1.1) ht7) ?_ ?_ AllReadyH.nil)
                · (go_simp; try (with_reducible rfl))
                · intro v8 u' hT
                  obtain ⟨A8, c8, rfl, ht8, hb⟩ := hT
                  have hS' : (fun u => Below w3.heap.size w3 u) u' := hbt hS hb
                  refine ⟨hS', ?_⟩
                  replace ho13 := obj_below ho13 hb
                  replace ho12 := obj_below ho12 hb
                  replace ht1 := ht1.below hb
                  replace ht7 := ht7.below hb
                  clear hS hb
                  have hS := hS'; clear hS'
                  rename World => u
                  try simp only [puts]
                  refine gv 9 (v := ?_) (fun u hu => ?_) hS ?_
                  rotate_left
                  · ((obtain ⟨⟨m0, m1⟩, a0, a1, a2, b0, b1, b2⟩ := (HQ3.out.below hu).1.cells; obtain ⟨x0, x1, _, _⟩ := obj_cells (HQ3.out.below hu).2); go_simp; try (with_reducible rfl))
                  try simp only [puts]
                  refine gv 10 (v := ?_) (fun u hu => ?_) hS ?_
                  rotate_left
                  · ((obtain ⟨⟨m0, m1⟩, a0, a1, a2, b0, b1, b2⟩ := (HQ3.out.below hu).1.cells; obtain ⟨x0, x1, _, _⟩ := obj_cells (HQ3.out.below hu).2); go_simp; try (with_reducible rfl))
                  try simp only [puts]
                  refine gv 11 (v := ?_) (fun u hu => ?_) hS ?_
                  rotate_left
                  · ((obtain ⟨⟨m0, m1⟩, a0, a1, a2, b0, b1, b2⟩ := (HQ3.out.below hu).1.cells; obtain ⟨x0, x1, _, _⟩ := obj_cells (HQ3.out.below hu).2); go_simp; try (with_reducible rfl))
                  try simp only [puts]
                  obtain ⟨d0, d1, f0, f1⟩ := obj_cells ho12
                  have k1 := obj_set2 ho12 (.string t1) (.slice A8 tn c8)
                  have k2 := obj_set_other ho13 (Ne.symm ne12_13) (.string t1) (.slice A8 tn c8)
                  have k3 : Below w3.heap.size w3 _ := below_set2 hS hp12 (.string t1) (.slice A8 tn c8)
                  have k4 := vals_by_msg ht8 ho12 (.string t1) (.slice A8 tn c8)
                  refine only (i := 14) rfl (by kernel_rfl) (by rfl) (fun K hK => ?_)
                  go_simp
                  refine hK.out _ _ k3 ?_
                  clear hK
                  try simp only [puts]
                  clear d0 d1 f0 f1 hS
                  generalize ((u.setCell _ _).setCell _ _) = u8 at *
                  obtain ⟨d0, d1, f0, f1⟩ := obj_cells k2
                  have k5 := obj_set_other k1 ne12_13 (.int .i64 e1) (.int .i64 e2)
                  have k6 := obj_set2 k2 (.int .i64 e1) (.int .i64 e2)
                  have k7 : Below w3.heap.size w3 _ := below_set2 k3 hp13 (.int .i64 e1) (.int .i64 e2)
                  have k8 := vals_by_fault k4 k2 (.int .i64 e1) (.int .i64 e2)
                  refine only (i := 15) rfl (by kernel_rfl) (by rfl) (fun K hK => ?_)
                  go_simp
                  refine hK.out _ _ k7 ?_
                  clear hK
                  try simp only [puts]
                  refine wpAnyH_done (by kernel_rfl) (NoPanic.normal ?_) _
                  go_wp2_with fail
                  go_meet
                  exact ⟨p12, p13, A8, c8, rfl, rfl, k7, k5, k8, k6⟩
      case rest =>
        obtain ⟨p, p', E, ce, rfl, rfl, hb, hE, hEt, hF⟩ := hcut
        have HQ5 := Lib.hid (HQ3.out.below hb)
        have HE5 := Lib.hid hE
        have HT5 := Lib.hid hEt
        have HF5 := Lib.hid hF
        clear hb hE hEt hF HQ3 HTR HCP HMP
        generalize wc = W5 at *
        obtain ⟨⟨m0, m1⟩, a0, a1, a2, b0, b1, b2⟩ := HQ5.out.1.cells
        obtain ⟨x0, x1, _, _⟩ := obj_cells HQ5.out.2
        go_wp2_with fail
        clear m0 m1 a0 a1 a2 b0 b1 b2 x0 x1
        refine (HTF.out _ (HM.out.below HQ5.out.1.1) (HR.out.below HQ5.out.1.1) (HA.out.below HQ5.out.1.1) (HB.out.below HQ5.out.1.1) (HI.out.below HQ5.out.1.1)).mono ?_
        rintro e w6 ⟨D, cd, rfl, htd, hb6⟩
        dsimp only at htd ⊢
        rw [HTN.out]
        have hbm := below_al w6 (.cells #[.string t1, .slice D tn cd] 41)
        have hbf := below_al (w6.alloc (.cells #[.string t1, .slice D tn cd] 41)) (.cells #[.int .i64 e1, .int .i64 e2] 44)
        have hb7 := hbt hb6 (hbt hbm hbf)
        have HB7 := Lib.hid (hbt HQ5.out.1.1 hb7)
        have HE7 := Lib.hid (HE5.out.below hb7)
        have HT7 := Lib.hid (HT5.out.below hb7)
        have HF7 := Lib.hid (obj_below HF5.out hb7)
        have HD7 := Lib.hid (htd.below (hbt hbm hbf))
        have HM7 : Hid (MBox ((w6.alloc (.cells #[.string t1, .slice D tn cd] 41)).alloc (.cells #[.int .i64 e1, .int .i64 e2] 44)) w6.heap.size t1 D tn cd) := obj_below (heap_alloc_new _ _) hbf
        have HG7 : Hid (((w6.alloc (.cells #[.string t1, .slice D tn cd] 41)).alloc (.cells #[.int .i64 e1, .int .i64 e2] 44)).heap[w6.heap.size + 1]? = some (.cells #[.int .i64 e1, .int .i64 e2] 44)) := heap_al _ _ _ (by simp)
        clear hb6 hb7 hbm hbf htd HQ5 HE5 HT5 HF5 HTF
        obtain ⟨d0, d1, _, _⟩ := obj_cells HE7.out
        obtain ⟨x0, x1, _, _⟩ := obj_cells HM7.out
        go_wp2_with fail
        clear d0 d1 x0 x1
        generalize (w6.alloc (.cells #[.string t1, .slice D tn cd] 41)).alloc (.cells #[.int .i64 e1, .int .i64 e2] 44) = W7 at *
        generalize w6.heap.size = g7 at *
        refine (HSM.out E ce D cd _ HT7.out HD7.out).mono ?_
        rintro e w8 ⟨rfl, hb8⟩
        have HB8 := Lib.hid (hbt HB7.out hb8)
        obtain ⟨f0, f1, _, _⟩ := obj_cells (obj_below HF7.out hb8)
        obtain ⟨h0, h1, _, _⟩ := obj_cells (obj_below HG7.out hb8)
        clear hb8
        go_wp2
        go_ret
        exact ⟨by simp, HB8.out⟩
    · rw [hgm] at HGM
      clear hK hM hR hA hB hI hlM hfM hcM hlR hf3 hma hmb hs hm hg1 hg2 hg3 hgz hf4 hgm
      generalize M.length = n at *
      generalize R.length = nr at *
      generalize a.length = la at *
      generalize b.length = lb at *
      generalize l.length = lx at *
      go_enter Tryz.func4, Tryz.ntmps4
      go_wp2_with fail
      generalize ((w.alloc (.cells #[.slice X n cM, .slice Y nr cR] 25)).alloc (.cells #[.int .i64 st, .int .i64 v, .slice A la ca, .int .i64 st', .int .i64 v', .slice A' lb cb] 29)).alloc (.cells #[.string m, .slice B lx cx] 41) = U at *
      refine (HAW.out _ (HK.out.below HQ0.out.1.1)).mono ?_
      rintro e w1 ⟨rfl, hb1⟩
      have HQ1 := Lib.hid (HQ0.out.below hb1)
      clear hb1 HQ0
      obtain ⟨⟨m0, m1⟩, a0, a1, a2, b0, b1, b2⟩ := HQ1.out.1.cells
      go_wp2_with fail
      clear m0 m1 a0 a1 a2 b0 b1 b2
      refine (HG.out _ (HM.out.below HQ1.out.1.1) (HR.out.below HQ1.out.1.1)).mono ?_
      rintro e w2 ⟨rfl, hb2⟩
      have HQ2 := Lib.hid (HQ1.out.below hb2)
      clear hb2 HQ1
      obtain ⟨x0, x1, _, _⟩ := obj_cells HQ2.out.2
      go_wp2_with fail
      clear x0 x1
      refine (HGM.out _ (HI.out.below HQ2.out.1.1)).mono ?_
      rintro e w3 ⟨rfl, hb3⟩
      have HQ3 := Lib.hid (HQ2.out.below hb3)
      clear hb3 HQ2
      go_wp2_with fail
      refine (HAW.out _ (HK.out.below HQ3.out.1.1)).mono ?_
      rintro e w4 ⟨rfl, hb4⟩
      have HQ4 := Lib.hid (HQ3.out.below hb4)
      clear hb4
      go_wp2
      go_ret
      exact ⟨rfl, HQ4.out.1.1⟩
  · rw [hg] at HG
    clear hK hM hR hA hB hI hlM hfM hcM hlR hf3 hma hmb hs hm hg
    generalize M.length = n at *
    generalize R.length = nr at *
    generalize a.length = la at *
    generalize b.length = lb at *
    generalize l.length = lx at *
    go_enter Tryz.func4, Tryz.ntmps4
    go_wp2_with fail
    generalize ((w.alloc (.cells #[.slice X n cM, .slice Y nr cR] 25)).alloc (.cells #[.int .i64 st, .int .i64 v, .slice A la ca, .int .i64 st', .int .i64 v', .slice A' lb cb] 29)).alloc (.cells #[.string m, .slice B lx cx] 41) = U at *
    refine (HAW.out _ (HK.out.below HQ0.out.1.1)).mono ?_
    rintro e w1 ⟨rfl, hb1⟩
    have HQ1 := Lib.hid (HQ0.out.below hb1)
    clear hb1 HQ0
    obtain ⟨⟨m0, m1⟩, a0, a1, a2, b0, b1, b2⟩ := HQ1.out.1.cells
    go_wp2_with fail
    clear m0 m1 a0 a1 a2 b0 b1 b2
    refine (HG.out _ (HM.out.below HQ1.out.1.1) (HR.out.below HQ1.out.1.1)).mono ?_
    rintro e w2 ⟨rfl, hb2⟩
    have HQ2 := Lib.hid (HQ1.out.below hb2)
    clear hb2 HQ1
    go_wp2_with fail
    refine (HAW.out _ (HK.out.below HQ2.out.1.1)).mono ?_
    rintro e w4 ⟨rfl, hb4⟩
    have HQ4 := Lib.hid (HQ2.out.below hb4)
    clear hb4
    go_wp2
    go_ret
    exact ⟨rfl, HQ4.out.1.1⟩

end Go.Proofs.YthheflgfbdcnlaaGreatDoor
