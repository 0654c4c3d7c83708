/-
  The law InvertBack: for every map, schemas and message, in every world where the table of kinds reads as it is laid.
-/
import Derived.Test.YtbhlennolghjmaaDoorInvLq
import Derived.Test.YtbhlennolghjmaaDoorXltLm
import Derived.Test.YtbhlennolghjmaaDoorXltTra
import Derived.Test.YtbhlennolghjmaaDoorPackMsg
import Derived.Test.YtbhlennolghjmaaDoorPackRul
namespace Go.Proofs.YtbhlennolghjmaaDoor
open Go.RowKit

set_option maxRecDepth 100000 in
set_option maxHeartbeats 25600000 in
theorem iback_row (X : Option Addr) (cM : Nat) (M : List PairT) (Y : Option Addr) (cR : Nat) (R : List Ru) (st v : Int) (A : Option Addr) (ca : Nat) (a : List Sp) (st' v' : Int) (A' : Option Addr) (cb : Nat) (b : List Sp) (m : ByteArray) (B : Option Addr) (cx : Nat) (l : List Item) (w : World) (hK : Kinds w) (hM : Prs w X M) (hlM : M.length ≤ maxLen) (hfM : Fit2 M) (hcM : M.length ≤ cM) (hR : Rls w Y R) (hlR : R.length ≤ maxLen) (hf3 : Fit3 R) (hA : Spl w A a) (hma : a.length ≤ maxLen) (hB : Spl w A' b) (hmb : b.length ≤ maxLen) (_ : m.size ≤ maxLen) (hI : Tlvs w B l) (_ : l.length ≤ maxLen) (hs : ∀ x ∈ l, x.2.size ≤ maxLen) :
    Calls Tryd.prog 5 #[.agg #[.slice X M.length cM, .slice Y R.length cR], .agg #[.int .i64 st, .int .i64 v, .slice A a.length ca, .int .i64 st', .int .i64 v', .slice A' b.length cb], .agg #[.string m, .slice B l.length cx]] w fun e w' => e = .returned (.bool true) ∧ Below w.heap.size w w' := by
  have HAW := Lib.hid (fun W h => iawake_any W h)
  have HG := Lib.hid (fun W h1 h2 => ilgreat_any X cM M Y cR R st v A a.length ca st' v' A' b.length cb W h1 h2 hlM hlR hfM hf3 hma hmb)
  have HGM := Lib.hid (fun W h => mgreat_any m B cx l W h hs)
  have HQ0 := Lib.hid (lm_new w X M.length cM Y R.length cR st v A a.length ca st' v' A' b.length cb m B l.length cx)
  have HK := Lib.hid hK
  have HM := Lib.hid hM
  have HR := Lib.hid hR
  have HA := Lib.hid hA
  have HB := Lib.hid hB
  have HI := Lib.hid hI
  cases hg : (xgreatB M R || decide (200 < a.length) || decide (200 < b.length))
  · simp only [Bool.or_eq_false_iff, decide_eq_false_iff_not] at hg
    obtain ⟨⟨hg1, hg2⟩, hg3⟩ := hg
    have hf4 := xgreat_four hg1 hf3
    have hgz : (xgreatB M R || decide (200 < a.length) || decide (200 < b.length)) = false := by rw [hg1, decide_eq_false hg2, decide_eq_false hg3]; rfl
    rw [hgz] at HG
    obtain ⟨hM3, hR3, hP3⟩ := xgreat_in hg1
    have hP4 := fun r hr => rgreat_few (hP3 r hr)
    cases hgm : greatM m l
    · rw [hgm] at HGM
      have hl2 := (great_in hgm).2.1
      have HIC := Lib.hid (fun W k0 k1 k2 k3 k4 => icheck_any rchk_any X cM M Y cR R st v A ca a st' v' A' cb b W k0 k1 k2 k3 k4 (by omega) (by omega) hlM hcM hfM hlR hf4)
      have HTR := Lib.hid (fun W k0 k1 k2 k3 k4 k5 => xtrans_any rchk_any rapp_any X cM M Y cR R st v A ca a st' v' A' cb b m B cx l W k0 k1 k2 k3 k4 k5 (by omega) (by omega) hlM hcM hlR hf4 (by omega) hs)
      have HTN := Lib.hid (fun W k1 k2 => turn_some (turn_len M) (iturn_any X cM M Y cR R W k1 k2 (by omega) (by omega) (fun r hr => (hf4 r hr).2.1)))
      have hTL : (xltT st v a st' v' b M R m l).2.1.length ≤ 128 ∧ ∀ y ∈ (xltT st v a st' v' b M R m l).2.1, y.2.size ≤ maxLen := by
        rcases xt_cases (st := st) (v := v) (a := a) (st' := st') (v' := v') (b := b) (M := M) (R := R) (m := m) (l := l) with ⟨k, _, hT⟩ | ⟨h1, h2, h3, h4⟩
        · rw [hT]; exact ⟨Nat.zero_le _, fun y hy => by simp at hy⟩
        · rw [xt_ok h1 h2 h3 h4]; exact ⟨xsort_length (xlt_valid h1 (msgN_told h2) h3 h4), xmade_sizes hf4 hs⟩
      have HE0 : Hid ((xltT st v a st' v' b M R m l).2.2.1 = 0 → (xltT st v a st' v' b M R m l).2.2.2 = 0) := by
        show _ → _
        rcases xt_cases (st := st) (v := v) (a := a) (st' := st') (v' := v') (b := b) (M := M) (R := R) (m := m) (l := l) with ⟨k, hk, hT⟩ | ⟨h1, h2, h3, h4⟩
        · rw [hT]; exact fun e => absurd e hk
        · rw [xt_ok h1 h2 h3 h4]; exact fun _ => rfl
      have HBK : Hid (invB st v a st' v' b M R = true → (xltT st v a st' v' b M R m l).2.2.1 = 0 → xltT st' v' b st v a (turnL M) (turnRs R) (xltT st v a st' v' b M R m l).1 (xltT st v a st' v' b M R m l).2.1 = (m, l, 0, 0)) := by
        show _ → _ → _
        intro hi
        rcases xt_cases (st := st) (v := v) (a := a) (st' := st') (v' := v') (b := b) (M := M) (R := R) (m := m) (l := l) with ⟨k, hk, hT⟩ | ⟨h1, h2, h3, h4⟩
        · rw [hT]; exact fun e => absurd e hk
        · rw [xt_ok h1 h2 h3 h4]; exact fun _ => inv_back hi (msgN_told h2) h3 h4
      have HTB : Hid (∀ (A1 : Option Addr × Option Addr) (c1 : Nat × Nat) D cd W, Kinds W → MpAt (turnL M) (turnRs R) A1 c1 W → Spl W A' b → Spl W A a → Tlvs W D (xltT st v a st' v' b M R m l).2.1 → Calls Tryd.prog 18 #[.agg #[.slice A1.1 M.length c1.1, .slice A1.2 R.length c1.2], .agg #[.int .i64 st', .int .i64 v', .slice A' b.length cb], .agg #[.int .i64 st, .int .i64 v, .slice A a.length ca], .agg #[.string (xltT st v a st' v' b M R m l).1, .slice D (xltT st v a st' v' b M R m l).2.1.length cd]] W fun e w' => DecTo (xltT st' v' b st v a (turnL M) (turnRs R) (xltT st v a st' v' b M R m l).1 (xltT st v a st' v' b M R m l).2.1) W w' e) := fun A1 c1 D cd W k0 k1 k2 k3 k4 => by
        have := xtrans_any rchk_any rapp_any A1.1 c1.1 (turnL M) A1.2 c1.2 (turnRs R) st' v' A' cb b st v A ca a (xltT st v a st' v' b M R m l).1 D cd (xltT st v a st' v' b M R m l).2.1 W k0 k1.1 k1.2.2 k2 k3 k4 (by omega) (by omega) (by rw [turn_len]; exact hlM) k1.2.1 (by rw [turnRs_len]; exact hlR) (turn_four hf4) (by have := hTL.1; omega) hTL.2
        rw [turn_len, turnRs_len] at this
        exact this
      have HSM := Lib.hid (fun E ce W k1 k2 => mrsame_any m B cx l m E ce l W k1 k2 (by omega))
      simp only [sameM_refl] at HSM
      generalize invB st v a st' v' b M R = Z at *
      generalize hTT : xltT st v a st' v' b M R m l = T at *
      clear hTT hTL
      obtain ⟨t1, TL, e1, e2⟩ := T
      dsimp only at HTR HE0 HBK HTB
      generalize xltT st' v' b st v a (turnL M) (turnRs R) t1 TL = T2 at *
      clear hK hM hR hA hB hlM hfM hcM hlR hf3 hma hmb hI hs hg1 hg2 hg3 hgz hf4 hM3 hR3 hP3 hP4 hl2 hgm
      generalize M.length = n at *
      generalize R.length = nr at *
      generalize a.length = la at *
      generalize b.length = lb at *
      generalize hlx : l.length = lx at *
      have HLX := Lib.hid hlx
      clear hlx
      generalize htn : TL.length = tn at *
      have HTL := Lib.hid htn
      clear htn
      go_enter Tryd.func5, Tryd.ntmps5
      go_wp2_with fail
      generalize ((w.alloc (.cells #[.slice X n cM, .slice Y nr cR] 25)).alloc (.cells #[.int .i64 st, .int .i64 v, .slice A la ca, .int .i64 st', .int .i64 v', .slice A' lb cb] 29)).alloc (.cells #[.string m, .slice B lx cx] 41) = U at *
      refine (HAW.out _ (HK.out.below HQ0.out.1.1)).mono ?_
      rintro e w1 ⟨rfl, hb1⟩
      have HQ1 := Lib.hid (HQ0.out.below hb1)
      clear hb1 HQ0
      obtain ⟨⟨m0, m1⟩, a0, a1, a2, b0, b1, b2⟩ := HQ1.out.1.cells
      go_wp2_with fail
      clear m0 m1 a0 a1 a2 b0 b1 b2
      refine (HG.out _ (HM.out.below HQ1.out.1.1) (HR.out.below HQ1.out.1.1)).mono ?_
      rintro e w2 ⟨rfl, hb2⟩
      have HQ2 := Lib.hid (HQ1.out.below hb2)
      clear hb2 HQ1 HG
      obtain ⟨x0, x1, _, _⟩ := obj_cells HQ2.out.2
      go_wp2_with fail
      clear x0 x1
      refine (HGM.out _ (HI.out.below HQ2.out.1.1)).mono ?_
      rintro e w3 ⟨rfl, hb3⟩
      have HQ3 := Lib.hid (HQ2.out.below hb3)
      clear hb3 HQ2 HGM
      obtain ⟨⟨m0, m1⟩, a0, a1, a2, b0, b1, b2⟩ := HQ3.out.1.cells
      go_wp2_with fail
      clear m0 m1 a0 a1 a2 b0 b1 b2
      refine (HIC.out _ (HK.out.below HQ3.out.1.1) (HM.out.below HQ3.out.1.1) (HR.out.below HQ3.out.1.1) (HA.out.below HQ3.out.1.1) (HB.out.below HQ3.out.1.1)).mono ?_
      rintro e w4 ⟨rfl, hb4⟩
      have HQ4 := Lib.hid (HQ3.out.below hb4)
      clear hb4 HQ3 HIC
      cases Z
      · go_wp2_with fail
        refine (HAW.out _ (HK.out.below HQ4.out.1.1)).mono ?_
        rintro e w9 ⟨rfl, hb9⟩
        have HQ9 := Lib.hid (HQ4.out.below hb9)
        clear hb9
        go_wp2
        go_ret
        exact ⟨rfl, HQ9.out.1.1⟩
      · have HBJ := Lib.hid (HBK.out rfl)
        clear HBK
        obtain ⟨⟨m0, m1⟩, a0, a1, a2, b0, b1, b2⟩ := HQ4.out.1.cells
        obtain ⟨x0, x1, _, _⟩ := obj_cells HQ4.out.2
        go_wp2_with fail
        clear m0 m1 a0 a1 a2 b0 b1 b2 x0 x1
        refine (HTR.out _ (HK.out.below HQ4.out.1.1) (HM.out.below HQ4.out.1.1) (HR.out.below HQ4.out.1.1) (HA.out.below HQ4.out.1.1) (HB.out.below HQ4.out.1.1) (HI.out.below HQ4.out.1.1)).mono ?_
        rintro e w5 ⟨D, cd, rfl, htd, hb5⟩
        dsimp only at htd ⊢
        rw [HTL.out]
        have hbm := below_al w5 (.cells #[.string t1, .slice D tn cd] 41)
        have hbf := below_al (w5.alloc (.cells #[.string t1, .slice D tn cd] 41)) (.cells #[.int .i64 e1, .int .i64 e2] 44)
        have HQ6 := Lib.hid (HQ4.out.below (hbt hb5 (hbt hbm hbf)))
        have HD6 := Lib.hid (htd.below (hbt hbm hbf))
        have HM6 : Hid (MBox ((w5.alloc (.cells #[.string t1, .slice D tn cd] 41)).alloc (.cells #[.int .i64 e1, .int .i64 e2] 44)) w5.heap.size t1 D tn cd) := obj_below (heap_alloc_new _ _) hbf
        have HF6 : Hid (((w5.alloc (.cells #[.string t1, .slice D tn cd] 41)).alloc (.cells #[.int .i64 e1, .int .i64 e2] 44)).heap[w5.heap.size + 1]? = some (.cells #[.int .i64 e1, .int .i64 e2] 44)) := heap_al _ _ _ (by simp)
        clear hb5 hbm hbf HQ4 HTR htd
        go_upto_region 4 with fail
        generalize (w5.alloc (.cells #[.string t1, .slice D tn cd] 41)).alloc (.cells #[.int .i64 e1, .int .i64 e2] 44) = W6 at *
        generalize w5.heap.size = g6 at *
        by_cases he : e1 = 0
        · have h2 := HE0.out he
          have HBZ := Lib.hid (HBJ.out he)
          clear HE0 HBJ
          subst he h2
          rw [HBZ.out] at HTB
          have HTC := Lib.hid (fun A1 c1 W k0 k1 k2 k3 k4 => (HTB.out A1 c1 D cd W k0 k1 k2 k3 k4).mono fun e w' he => decto_some he)
          dsimp only at HTC
          rw [HLX.out] at HTC
          obtain ⟨f0, f1, _, _⟩ := obj_cells HF6.out
          go_upto_region 6 with fail
          clear f0 f1
          go_cut [9, 10] (fun s9 s10 wx => ∃ (p p' : Nat) (E : Option Addr) (ce : Nat), s9 = .pointer (some ⟨p, 0, none⟩) ∧ s10 = .pointer (some ⟨p', 0, none⟩) ∧ Below W6.heap.size W6 wx ∧ MBox wx p m E lx ce ∧ Tlvs wx E l ∧ wx.heap[p']? = some (.cells #[.int .i64 0, .int .i64 0] 44))
          case first =>
            refine wp_region_noPanic ?_
            refine wp_region_held_drew (S := (fun u => Below W6.heap.size W6 u)) (by kernel_rfl) ((Below.refl _ _).drew) (fun hS => ?_)
            refine gv 0 (v := ?_) (fun u hu => ?_) hS ?_
            rotate_left
            · ((obtain ⟨⟨m0, m1⟩, a0, a1, a2, b0, b1, b2⟩ := (HQ6.out.below hu).1.cells; obtain ⟨x0, x1, _, _⟩ := obj_cells (HM6.out.below hu)); go_simp; try (with_reducible rfl))
            try simp only [puts]
            refine gv 2 (v := ?_) (fun u hu => ?_) hS ?_
            rotate_left
            · ((obtain ⟨⟨m0, m1⟩, a0, a1, a2, b0, b1, b2⟩ := (HQ6.out.below hu).1.cells; obtain ⟨x0, x1, _, _⟩ := obj_cells (HM6.out.below hu)); go_simp; try (with_reducible rfl))
            try simp only [puts]
            refine gv 3 (v := ?_) (fun u hu => ?_) hS ?_
            rotate_left
            · ((obtain ⟨⟨m0, m1⟩, a0, a1, a2, b0, b1, b2⟩ := (HQ6.out.below hu).1.cells; obtain ⟨x0, x1, _, _⟩ := obj_cells (HM6.out.below hu)); go_simp; try (with_reducible rfl))
            try simp only [puts]
            refine gv 4 (v := ?_) (fun u hu => ?_) hS ?_
            rotate_left
            · ((obtain ⟨⟨m0, m1⟩, a0, a1, a2, b0, b1, b2⟩ := (HQ6.out.below hu).1.cells; obtain ⟨x0, x1, _, _⟩ := obj_cells (HM6.out.below hu)); go_simp; try (with_reducible rfl))
            try simp only [puts]
            refine gv 5 (v := ?_) (fun u hu => ?_) hS ?_
            rotate_left
            · ((obtain ⟨⟨m0, m1⟩, a0, a1, a2, b0, b1, b2⟩ := (HQ6.out.below hu).1.cells; obtain ⟨x0, x1, _, _⟩ := obj_cells (HM6.out.below hu)); go_simp; try (with_reducible rfl))
            try simp only [puts]
            refine gv 6 (v := ?_) (fun u hu => ?_) hS ?_
            rotate_left
            · ((obtain ⟨⟨m0, m1⟩, a0, a1, a2, b0, b1, b2⟩ := (HQ6.out.below hu).1.cells; obtain ⟨x0, x1, _, _⟩ := obj_cells (HM6.out.below hu)); go_simp; try (with_reducible rfl))
            try simp only [puts]
            refine wpAnyH_ready (rs := [1, 11, 12]) (by kernel_rfl) (by simp) (arm_some (i := 1) 14 #[.agg #[.slice X n cM, .slice Y nr cR]] rfl (by rfl) (HTN.out _ (HM.out.below (HQ6.out.below hS).1.1) (HR.out.below (HQ6.out.below hS).1.1)) ?_ ?_ (arm_alloc (i := 11) (.cells #[.string ⟨#[]⟩, .slice none 0 0] 41) rfl (by rfl) ?_ ?_ (arm_alloc (i := 12) (.cells #[.int .i64 0, .int .i64 0] 44) rfl (by rfl) ?_ ?_ AllReadyH.nil)))
            · (go_simp; try (with_reducible rfl))
            intro v1 u' hT
            obtain ⟨A1, c1, rfl, ht1, hb⟩ := hT
            have hS' : (fun u => Below W6.heap.size W6 u) u' := hbt hS hb
            refine ⟨hS', ?_⟩
            clear hS hb; have hS := hS'; clear hS'; rename World => u; try simp only [puts]
            rotate_left
            · (go_simp; try (with_reducible rfl))
            intro p11 u' hb ho11 hp11
            replace hp11 := Nat.le_trans (hS.size) hp11
            have hS' : (fun u => Below W6.heap.size W6 u) u' := hbt hS hb
            refine ⟨hS', ?_⟩
            clear hS hb; have hS := hS'; clear hS'; rename World => u; try simp only [puts]
            rotate_left
            · (go_simp; try (with_reducible rfl))
            intro p12 u' hb ho12 hp12
            replace hp12 := Nat.le_trans (hS.size) hp12
            have hS' : (fun u => Below W6.heap.size W6 u) u' := hbt hS hb
            refine ⟨hS', ?_⟩
            clear hS hb; have hS := hS'; clear hS'; rename World => u; try simp only [puts]
            rotate_left
            all_goals first
              |
                refine wpAnyH_ready (rs := [1, 12]) (by kernel_rfl) (by simp) (arm_some (i := 1) 14 #[.agg #[.slice X n cM, .slice Y nr cR]] rfl (by rfl) (HTN.out _ (HM.out.below (HQ6.out.below hS).1.1) (HR.out.below (HQ6.out.below hS).1.1)) ?_ ?_ (arm_alloc (i := 12) (.cells #[.int .i64 0, .int .i64 0] 44) rfl (by rfl) ?_ ?_ AllReadyH.nil))
                · (go_simp; try (with_reducible rfl))
                intro v1 u' hT
                obtain ⟨A1, c1, rfl, ht1, hb⟩ := hT
                have hS' : (fun u => Below W6.heap.size W6 u) u' := hbt hS hb
                refine ⟨hS', ?_⟩
                replace ho11 := obj_below ho11 hb
                clear hS hb; have hS := hS'; clear hS'; rename World => u; try simp only [puts]
                rotate_left
                · (go_simp; try (with_reducible rfl))
                intro p12 u' hb ho12 hp12
                have ne11_12 : p11 ≠ p12 := by have := obj_lt ho11; omega
                replace hp12 := Nat.le_trans (hS.size) hp12
                have hS' : (fun u => Below W6.heap.size W6 u) u' := hbt hS hb
                refine ⟨hS', ?_⟩
                replace ho11 := obj_below ho11 hb
                clear hS hb; have hS := hS'; clear hS'; rename World => u; try simp only [puts]
                rotate_left
              |
                refine wpAnyH_ready (rs := [1, 11]) (by kernel_rfl) (by simp) (arm_some (i := 1) 14 #[.agg #[.slice X n cM, .slice Y nr cR]] rfl (by rfl) (HTN.out _ (HM.out.below (HQ6.out.below hS).1.1) (HR.out.below (HQ6.out.below hS).1.1)) ?_ ?_ (arm_alloc (i := 11) (.cells #[.string ⟨#[]⟩, .slice none 0 0] 41) rfl (by rfl) ?_ ?_ AllReadyH.nil))
                · (go_simp; try (with_reducible rfl))
                intro v1 u' hT
                obtain ⟨A1, c1, rfl, ht1, hb⟩ := hT
                have hS' : (fun u => Below W6.heap.size W6 u) u' := hbt hS hb
                refine ⟨hS', ?_⟩
                replace ho12 := obj_below ho12 hb
                clear hS hb; have hS := hS'; clear hS'; rename World => u; try simp only [puts]
                rotate_left
                · (go_simp; try (with_reducible rfl))
                intro p11 u' hb ho11 hp11
                have ne11_12 : p11 ≠ p12 := by have := obj_lt ho12; omega
                replace hp11 := Nat.le_trans (hS.size) hp11
                have hS' : (fun u => Below W6.heap.size W6 u) u' := hbt hS hb
                refine ⟨hS', ?_⟩
                replace ho12 := obj_below ho12 hb
                clear hS hb; have hS := hS'; clear hS'; rename World => u; try simp only [puts]
                rotate_left
              |
                refine wpAnyH_ready (rs := [7, 11, 12]) (by kernel_rfl) (by simp) (arm_some (i := 7) 18 #[.agg #[.slice A1.1 n c1.1, .slice A1.2 nr c1.2], .agg #[.int .i64 st', .int .i64 v', .slice A' lb cb], .agg #[.int .i64 st, .int .i64 v, .slice A la ca], .agg #[.string t1, .slice D tn cd]] rfl (by rfl) (HTC.out A1 c1 _ (HK.out.below (HQ6.out.below hS).1.1) ht1 (HB.out.below (HQ6.out.below hS).1.1) (HA.out.below (HQ6.out.below hS).1.1) (HD6.out.below hS)) ?_ ?_ (arm_alloc (i := 11) (.cells #[.string ⟨#[]⟩, .slice none 0 0] 41) rfl (by rfl) ?_ ?_ (arm_alloc (i := 12) (.cells #[.int .i64 0, .int .i64 0] 44) rfl (by rfl) ?_ ?_ AllReadyH.nil)))
                · (go_simp; try (with_reducible rfl))
                intro v7 u' hT
                obtain ⟨A7, c7, rfl, ht7, hb⟩ := hT
                have hS' : (fun u => Below W6.heap.size W6 u) u' := hbt hS hb
                refine ⟨hS', ?_⟩
                replace ht1 := ht1.below hb
                clear hS hb; have hS := hS'; clear hS'; rename World => u; try simp only [puts]
                refine gv 8 (v := ?_) (fun u hu => ?_) hS ?_
                rotate_left
                · ((obtain ⟨⟨m0, m1⟩, a0, a1, a2, b0, b1, b2⟩ := (HQ6.out.below hu).1.cells; obtain ⟨x0, x1, _, _⟩ := obj_cells (HM6.out.below hu)); go_simp; try (with_reducible rfl))
                try simp only [puts]
                refine gv 9 (v := ?_) (fun u hu => ?_) hS ?_
                rotate_left
                · ((obtain ⟨⟨m0, m1⟩, a0, a1, a2, b0, b1, b2⟩ := (HQ6.out.below hu).1.cells; obtain ⟨x0, x1, _, _⟩ := obj_cells (HM6.out.below hu)); go_simp; try (with_reducible rfl))
                try simp only [puts]
                refine gv 10 (v := ?_) (fun u hu => ?_) hS ?_
                rotate_left
                · ((obtain ⟨⟨m0, m1⟩, a0, a1, a2, b0, b1, b2⟩ := (HQ6.out.below hu).1.cells; obtain ⟨x0, x1, _, _⟩ := obj_cells (HM6.out.below hu)); go_simp; try (with_reducible rfl))
                try simp only [puts]
                rotate_left
                · (go_simp; try (with_reducible rfl))
                intro p11 u' hb ho11 hp11
                replace hp11 := Nat.le_trans (hS.size) hp11
                have hS' : (fun u => Below W6.heap.size W6 u) u' := hbt hS hb
                refine ⟨hS', ?_⟩
                replace ht1 := ht1.below hb
                clear hS hb; have hS := hS'; clear hS'; rename World => u; try simp only [puts]
                rotate_left
                · (go_simp; try (with_reducible rfl))
                intro p12 u' hb ho12 hp12
                replace hp12 := Nat.le_trans (hS.size) hp12
                have hS' : (fun u => Below W6.heap.size W6 u) u' := hbt hS hb
                refine ⟨hS', ?_⟩
                replace ht1 := ht1.below hb
                clear hS hb; have hS := hS'; clear hS'; rename World => u; try simp only [puts]
                rotate_left
            all_goals first
              |
                refine wpAnyH_ready (rs := [1]) (by kernel_rfl) (by simp) (arm_some (i := 1) 14 #[.agg #[.slice X n cM, .slice Y nr cR]] rfl (by rfl) (HTN.out _ (HM.out.below (HQ6.out.below hS).1.1) (HR.out.below (HQ6.out.below hS).1.1)) ?_ ?_ AllReadyH.nil)
                · (go_simp; try (with_reducible rfl))
                intro v1 u' hT
                obtain ⟨A1, c1, rfl, ht1, hb⟩ := hT
                have hS' : (fun u => Below W6.heap.size W6 u) u' := hbt hS hb
                refine ⟨hS', ?_⟩
                replace ho11 := obj_below ho11 hb
                replace ho12 := obj_below ho12 hb
                clear hS hb; have hS := hS'; clear hS'; rename World => u; try simp only [puts]
              |
                refine wpAnyH_ready (rs := [7, 12]) (by kernel_rfl) (by simp) (arm_some (i := 7) 18 #[.agg #[.slice A1.1 n c1.1, .slice A1.2 nr c1.2], .agg #[.int .i64 st', .int .i64 v', .slice A' lb cb], .agg #[.int .i64 st, .int .i64 v, .slice A la ca], .agg #[.string t1, .slice D tn cd]] rfl (by rfl) (HTC.out A1 c1 _ (HK.out.below (HQ6.out.below hS).1.1) ht1 (HB.out.below (HQ6.out.below hS).1.1) (HA.out.below (HQ6.out.below hS).1.1) (HD6.out.below hS)) ?_ ?_ (arm_alloc (i := 12) (.cells #[.int .i64 0, .int .i64 0] 44) rfl (by rfl) ?_ ?_ AllReadyH.nil))
                · (go_simp; try (with_reducible rfl))
                intro v7 u' hT
                obtain ⟨A7, c7, rfl, ht7, hb⟩ := hT
                have hS' : (fun u => Below W6.heap.size W6 u) u' := hbt hS hb
                refine ⟨hS', ?_⟩
                replace ho11 := obj_below ho11 hb
                replace ht1 := ht1.below hb
                clear hS hb; have hS := hS'; clear hS'; rename World => u; try simp only [puts]
                refine gv 8 (v := ?_) (fun u hu => ?_) hS ?_
                rotate_left
                · ((obtain ⟨⟨m0, m1⟩, a0, a1, a2, b0, b1, b2⟩ := (HQ6.out.below hu).1.cells; obtain ⟨x0, x1, _, _⟩ := obj_cells (HM6.out.below hu)); go_simp; try (with_reducible rfl))
                try simp only [puts]
                refine gv 9 (v := ?_) (fun u hu => ?_) hS ?_
                rotate_left
                · ((obtain ⟨⟨m0, m1⟩, a0, a1, a2, b0, b1, b2⟩ := (HQ6.out.below hu).1.cells; obtain ⟨x0, x1, _, _⟩ := obj_cells (HM6.out.below hu)); go_simp; try (with_reducible rfl))
                try simp only [puts]
                refine gv 10 (v := ?_) (fun u hu => ?_) hS ?_
                rotate_left
                · ((obtain ⟨⟨m0, m1⟩, a0, a1, a2, b0, b1, b2⟩ := (HQ6.out.below hu).1.cells; obtain ⟨x0, x1, _, _⟩ := obj_cells (HM6.out.below hu)); go_simp; try (with_reducible rfl))
                try simp only [puts]
                rotate_left
                · (go_simp; try (with_reducible rfl))
                intro p12 u' hb ho12 hp12
                have ne11_12 : p11 ≠ p12 := by have := obj_lt ho11; omega
                replace hp12 := Nat.le_trans (hS.size) hp12
                have hS' : (fun u => Below W6.heap.size W6 u) u' := hbt hS hb
                refine ⟨hS', ?_⟩
                replace ho11 := obj_below ho11 hb
                replace ht1 := ht1.below hb
                clear hS hb; have hS := hS'; clear hS'; rename World => u; try simp only [puts]
                rotate_left
              |
                refine wpAnyH_ready (rs := [7, 11]) (by kernel_rfl) (by simp) (arm_some (i := 7) 18 #[.agg #[.slice A1.1 n c1.1, .slice A1.2 nr c1.2], .agg #[.int .i64 st', .int .i64 v', .slice A' lb cb], .agg #[.int .i64 st, .int .i64 v, .slice A la ca], .agg #[.string t1, .slice D tn cd]] rfl (by rfl) (HTC.out A1 c1 _ (HK.out.below (HQ6.out.below hS).1.1) ht1 (HB.out.below (HQ6.out.below hS).1.1) (HA.out.below (HQ6.out.below hS).1.1) (HD6.out.below hS)) ?_ ?_ (arm_alloc (i := 11) (.cells #[.string ⟨#[]⟩, .slice none 0 0] 41) rfl (by rfl) ?_ ?_ AllReadyH.nil))
                · (go_simp; try (with_reducible rfl))
                intro v7 u' hT
                obtain ⟨A7, c7, rfl, ht7, hb⟩ := hT
                have hS' : (fun u => Below W6.heap.size W6 u) u' := hbt hS hb
                refine ⟨hS', ?_⟩
                replace ho12 := obj_below ho12 hb
                replace ht1 := ht1.below hb
                clear hS hb; have hS := hS'; clear hS'; rename World => u; try simp only [puts]
                refine gv 8 (v := ?_) (fun u hu => ?_) hS ?_
                rotate_left
                · ((obtain ⟨⟨m0, m1⟩, a0, a1, a2, b0, b1, b2⟩ := (HQ6.out.below hu).1.cells; obtain ⟨x0, x1, _, _⟩ := obj_cells (HM6.out.below hu)); go_simp; try (with_reducible rfl))
                try simp only [puts]
                refine gv 9 (v := ?_) (fun u hu => ?_) hS ?_
                rotate_left
                · ((obtain ⟨⟨m0, m1⟩, a0, a1, a2, b0, b1, b2⟩ := (HQ6.out.below hu).1.cells; obtain ⟨x0, x1, _, _⟩ := obj_cells (HM6.out.below hu)); go_simp; try (with_reducible rfl))
                try simp only [puts]
                refine gv 10 (v := ?_) (fun u hu => ?_) hS ?_
                rotate_left
                · ((obtain ⟨⟨m0, m1⟩, a0, a1, a2, b0, b1, b2⟩ := (HQ6.out.below hu).1.cells; obtain ⟨x0, x1, _, _⟩ := obj_cells (HM6.out.below hu)); go_simp; try (with_reducible rfl))
                try simp only [puts]
                rotate_left
                · (go_simp; try (with_reducible rfl))
                intro p11 u' hb ho11 hp11
                have ne11_12 : p11 ≠ p12 := by have := obj_lt ho12; omega
                replace hp11 := Nat.le_trans (hS.size) hp11
                have hS' : (fun u => Below W6.heap.size W6 u) u' := hbt hS hb
                refine ⟨hS', ?_⟩
                replace ho12 := obj_below ho12 hb
                replace ht1 := ht1.below hb
                clear hS hb; have hS := hS'; clear hS'; rename World => u; try simp only [puts]
                rotate_left
              |
                refine wpAnyH_ready (rs := [11, 12]) (by kernel_rfl) (by simp) (arm_alloc (i := 11) (.cells #[.string ⟨#[]⟩, .slice none 0 0] 41) rfl (by rfl) ?_ ?_ (arm_alloc (i := 12) (.cells #[.int .i64 0, .int .i64 0] 44) rfl (by rfl) ?_ ?_ AllReadyH.nil))
                · (go_simp; try (with_reducible rfl))
                intro p11 u' hb ho11 hp11
                replace hp11 := Nat.le_trans (hS.size) hp11
                have hS' : (fun u => Below W6.heap.size W6 u) u' := hbt hS hb
                refine ⟨hS', ?_⟩
                replace ht1 := ht1.below hb
                replace ht7 := ht7.below hb
                clear hS hb; have hS := hS'; clear hS'; rename World => u; try simp only [puts]
                rotate_left
                · (go_simp; try (with_reducible rfl))
                intro p12 u' hb ho12 hp12
                replace hp12 := Nat.le_trans (hS.size) hp12
                have hS' : (fun u => Below W6.heap.size W6 u) u' := hbt hS hb
                refine ⟨hS', ?_⟩
                replace ht1 := ht1.below hb
                replace ht7 := ht7.below hb
                clear hS hb; have hS := hS'; clear hS'; rename World => u; try simp only [puts]
                rotate_left
            all_goals first
              |
                refine wpAnyH_ready (rs := [7]) (by kernel_rfl) (by simp) (arm_some (i := 7) 18 #[.agg #[.slice A1.1 n c1.1, .slice A1.2 nr c1.2], .agg #[.int .i64 st', .int .i64 v', .slice A' lb cb], .agg #[.int .i64 st, .int .i64 v, .slice A la ca], .agg #[.string t1, .slice D tn cd]] rfl (by rfl) (HTC.out A1 c1 _ (HK.out.below (HQ6.out.below hS).1.1) ht1 (HB.out.below (HQ6.out.below hS).1.1) (HA.out.below (HQ6.out.below hS).1.1) (HD6.out.below hS)) ?_ ?_ AllReadyH.nil)
                · (go_simp; try (with_reducible rfl))
                intro v7 u' hT
                obtain ⟨A7, c7, rfl, ht7, hb⟩ := hT
                have hS' : (fun u => Below W6.heap.size W6 u) u' := hbt hS hb
                refine ⟨hS', ?_⟩
                replace ho11 := obj_below ho11 hb
                replace ho12 := obj_below ho12 hb
                replace ht1 := ht1.below hb
                clear hS hb; have hS := hS'; clear hS'; rename World => u; try simp only [puts]
                refine gv 8 (v := ?_) (fun u hu => ?_) hS ?_
                rotate_left
                · ((obtain ⟨⟨m0, m1⟩, a0, a1, a2, b0, b1, b2⟩ := (HQ6.out.below hu).1.cells; obtain ⟨x0, x1, _, _⟩ := obj_cells (HM6.out.below hu)); go_simp; try (with_reducible rfl))
                try simp only [puts]
                refine gv 9 (v := ?_) (fun u hu => ?_) hS ?_
                rotate_left
                · ((obtain ⟨⟨m0, m1⟩, a0, a1, a2, b0, b1, b2⟩ := (HQ6.out.below hu).1.cells; obtain ⟨x0, x1, _, _⟩ := obj_cells (HM6.out.below hu)); go_simp; try (with_reducible rfl))
                try simp only [puts]
                refine gv 10 (v := ?_) (fun u hu => ?_) hS ?_
                rotate_left
                · ((obtain ⟨⟨m0, m1⟩, a0, a1, a2, b0, b1, b2⟩ := (HQ6.out.below hu).1.cells; obtain ⟨x0, x1, _, _⟩ := obj_cells (HM6.out.below hu)); go_simp; try (with_reducible rfl))
                try simp only [puts]
              |
                refine wpAnyH_ready (rs := [12]) (by kernel_rfl) (by simp) (arm_alloc (i := 12) (.cells #[.int .i64 0, .int .i64 0] 44) rfl (by rfl) ?_ ?_ AllReadyH.nil)
                · (go_simp; try (with_reducible rfl))
                intro p12 u' hb ho12 hp12
                have ne11_12 : p11 ≠ p12 := by have := obj_lt ho11; omega
                replace hp12 := Nat.le_trans (hS.size) hp12
                have hS' : (fun u => Below W6.heap.size W6 u) u' := hbt hS hb
                refine ⟨hS', ?_⟩
                replace ho11 := obj_below ho11 hb
                replace ht1 := ht1.below hb
                replace ht7 := ht7.below hb
                clear hS hb; have hS := hS'; clear hS'; rename World => u; try simp only [puts]
              |
                refine wpAnyH_ready (rs := [11]) (by kernel_rfl) (by simp) (arm_alloc (i := 11) (.cells #[.string ⟨#[]⟩, .slice none 0 0] 41) rfl (by rfl) ?_ ?_ AllReadyH.nil)
                · (go_simp; try (with_reducible rfl))
                intro p11 u' hb ho11 hp11
                have ne11_12 : p11 ≠ p12 := by have := obj_lt ho12; omega
                replace hp11 := Nat.le_trans (hS.size) hp11
                have hS' : (fun u => Below W6.heap.size W6 u) u' := hbt hS hb
                refine ⟨hS', ?_⟩
                replace ho12 := obj_below ho12 hb
                replace ht1 := ht1.below hb
                replace ht7 := ht7.below hb
                clear hS hb; have hS := hS'; clear hS'; rename World => u; try simp only [puts]
            all_goals
              obtain ⟨d0, d1, f0, f1⟩ := obj_cells ho11
              have k1 := obj_set2 ho11 (.string m) (.slice A7 lx c7)
              have k2 := obj_set_other ho12 (Ne.symm ne11_12) (.string m) (.slice A7 lx c7)
              have k3 : Below W6.heap.size W6 _ := below_set2 hS hp11 (.string m) (.slice A7 lx c7)
              have k4 := vals_by_msg ht7 ho11 (.string m) (.slice A7 lx c7)
              refine only (i := 13) rfl (by kernel_rfl) (by rfl) (fun K hK => ?_)
              go_simp
              refine hK.out _ _ k3 ?_
              clear hK
              try simp only [puts]
              clear d0 d1 f0 f1 hS
              generalize ((u.setCell _ _).setCell _ _) = u8 at *
              obtain ⟨d0, d1, f0, f1⟩ := obj_cells k2
              have k5 := obj_set_other k1 ne11_12 (.int .i64 0) (.int .i64 0)
              have k6 := obj_set2 k2 (.int .i64 0) (.int .i64 0)
              have k7 : Below W6.heap.size W6 _ := below_set2 k3 hp12 (.int .i64 0) (.int .i64 0)
              have k8 := vals_by_fault k4 k2 (.int .i64 0) (.int .i64 0)
              refine only (i := 14) rfl (by kernel_rfl) (by rfl) (fun K hK => ?_)
              go_simp
              refine hK.out _ _ k7 ?_
              clear hK
              try simp only [puts]
              refine wpAnyH_done (by kernel_rfl) (NoPanic.normal ?_) _
              go_wp2_with fail
              go_meet
              exact ⟨p11, p12, A7, c7, rfl, rfl, k7, k5, k8, k6⟩
          case rest =>
            obtain ⟨p, p', E, ce, rfl, rfl, hb, hE, hEt, hF⟩ := hcut
            have HQ7 := Lib.hid (HQ6.out.below hb)
            have HE7 := Lib.hid hE
            have HT7 := Lib.hid hEt
            have HF7 := Lib.hid hF
            clear hb hE hEt hF HQ6 HTC HTB HTN HM6 HF6 HD6
            generalize wc = W7 at *
            obtain ⟨f0, f1, _, _⟩ := obj_cells HF7.out
            obtain ⟨x0, x1, _, _⟩ := obj_cells HQ7.out.2
            obtain ⟨y0, y1, _, _⟩ := obj_cells HE7.out
            go_wp2_with fail
            clear f0 f1 x0 x1 y0 y1
            refine (HSM.out E ce _ (HI.out.below HQ7.out.1.1) HT7.out).mono ?_
            rintro e w8 ⟨rfl, hb8⟩
            have HB8 := Lib.hid (hbt HQ7.out.1.1 hb8)
            clear hb8
            go_wp2
            go_ret
            exact ⟨rfl, HB8.out⟩
        · have tk : (e1 == 0) = false := by simpa using he
          clear he
          obtain ⟨f0, f1, _, _⟩ := obj_cells HF6.out
          go_wp2
          go_ret
          exact ⟨rfl, HQ6.out.1.1⟩
    · rw [hgm] at HGM
      clear hK hM hR hA hB hlM hfM hcM hlR hf3 hma hmb hI hs hg1 hg2 hg3 hgz hf4 hgm hM3 hR3 hP3 hP4
      generalize M.length = n at *
      generalize R.length = nr at *
      generalize a.length = la at *
      generalize b.length = lb at *
      generalize l.length = lx at *
      go_enter Tryd.func5, Tryd.ntmps5
      go_wp2_with fail
      generalize ((w.alloc (.cells #[.slice X n cM, .slice Y nr cR] 25)).alloc (.cells #[.int .i64 st, .int .i64 v, .slice A la ca, .int .i64 st', .int .i64 v', .slice A' lb cb] 29)).alloc (.cells #[.string m, .slice B lx cx] 41) = U at *
      refine (HAW.out _ (HK.out.below HQ0.out.1.1)).mono ?_
      rintro e w1 ⟨rfl, hb1⟩
      have HQ1 := Lib.hid (HQ0.out.below hb1)
      clear hb1 HQ0
      obtain ⟨⟨m0, m1⟩, a0, a1, a2, b0, b1, b2⟩ := HQ1.out.1.cells
      go_wp2_with fail
      clear m0 m1 a0 a1 a2 b0 b1 b2
      refine (HG.out _ (HM.out.below HQ1.out.1.1) (HR.out.below HQ1.out.1.1)).mono ?_
      rintro e w2 ⟨rfl, hb2⟩
      have HQ2 := Lib.hid (HQ1.out.below hb2)
      clear hb2 HQ1 HG
      obtain ⟨x0, x1, _, _⟩ := obj_cells HQ2.out.2
      go_wp2_with fail
      clear x0 x1
      refine (HGM.out _ (HI.out.below HQ2.out.1.1)).mono ?_
      rintro e w3 ⟨rfl, hb3⟩
      have HQ3 := Lib.hid (HQ2.out.below hb3)
      clear hb3 HQ2 HGM
      go_wp2_with fail
      refine (HAW.out _ (HK.out.below HQ3.out.1.1)).mono ?_
      rintro e w9 ⟨rfl, hb9⟩
      have HQ9 := Lib.hid (HQ3.out.below hb9)
      clear hb9
      go_wp2
      go_ret
      exact ⟨rfl, HQ9.out.1.1⟩
  · rw [hg] at HG
    clear hK hM hR hA hB hlM hfM hcM hlR hf3 hma hmb hI hs hg
    generalize M.length = n at *
    generalize R.length = nr at *
    generalize a.length = la at *
    generalize b.length = lb at *
    generalize l.length = lx at *
    go_enter Tryd.func5, Tryd.ntmps5
    go_wp2_with fail
    generalize ((w.alloc (.cells #[.slice X n cM, .slice Y nr cR] 25)).alloc (.cells #[.int .i64 st, .int .i64 v, .slice A la ca, .int .i64 st', .int .i64 v', .slice A' lb cb] 29)).alloc (.cells #[.string m, .slice B lx cx] 41) = U at *
    refine (HAW.out _ (HK.out.below HQ0.out.1.1)).mono ?_
    rintro e w1 ⟨rfl, hb1⟩
    have HQ1 := Lib.hid (HQ0.out.below hb1)
    clear hb1 HQ0
    obtain ⟨⟨m0, m1⟩, a0, a1, a2, b0, b1, b2⟩ := HQ1.out.1.cells
    go_wp2_with fail
    clear m0 m1 a0 a1 a2 b0 b1 b2
    refine (HG.out _ (HM.out.below HQ1.out.1.1) (HR.out.below HQ1.out.1.1)).mono ?_
    rintro e w2 ⟨rfl, hb2⟩
    have HQ2 := Lib.hid (HQ1.out.below hb2)
    clear hb2 HQ1 HG
    go_wp2_with fail
    refine (HAW.out _ (HK.out.below HQ2.out.1.1)).mono ?_
    rintro e w9 ⟨rfl, hb9⟩
    have HQ9 := Lib.hid (HQ2.out.below hb9)
    clear hb9
    go_wp2
    go_ret
    exact ⟨rfl, HQ9.out.1.1⟩

end Go.Proofs.YtbhlennolghjmaaDoor
