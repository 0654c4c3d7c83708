/-
  The law InvertChecks: for every map and schemas, in every world where the table of kinds reads as it is laid.
-/
import Derived.Test.YtbhlennolghjmaaDoorInvLq
import Derived.Test.YtbhlennolghjmaaDoorInvRef
import Derived.Test.YtbhlennolghjmaaDoorInvTrn
import Derived.Test.YtbhlennolghjmaaDoorXltCopy
import Derived.Test.YtbhlennolghjmaaDoorPackSch
import Derived.Test.YtbhlennolghjmaaDoorPackRul
namespace Go.Proofs.YtbhlennolghjmaaDoor
open Go.RowKit

set_option maxRecDepth 100000 in
set_option maxHeartbeats 25600000 in
theorem ichecks_row (X : Option Addr) (cM : Nat) (M : List PairT) (Y : Option Addr) (cR : Nat) (R : List Ru) (st v : Int) (A : Option Addr) (ca : Nat) (a : List Sp) (st' v' : Int) (A' : Option Addr) (cb : Nat) (b : List Sp) (w : World) (hK : Kinds w) (hM : Prs w X M) (hlM : M.length ≤ maxLen) (hfM : Fit2 M) (hcM : M.length ≤ cM) (hR : Rls w Y R) (hlR : R.length ≤ maxLen) (hf3 : Fit3 R) (hA : Spl w A a) (hma : a.length ≤ maxLen) (hB : Spl w A' b) (hmb : b.length ≤ maxLen) :
    Calls Tryd.prog 3 #[.agg #[.slice X M.length cM, .slice Y R.length cR], .agg #[.int .i64 st, .int .i64 v, .slice A a.length ca, .int .i64 st', .int .i64 v', .slice A' b.length cb]] w fun e w' => e = .returned (.bool true) ∧ Below w.heap.size w w' := by
  have HAW := Lib.hid (fun W h => iawake_any W h)
  have HG := Lib.hid (fun W h1 h2 => ilgreat_any X cM M Y cR R st v A a.length ca st' v' A' b.length cb W h1 h2 hlM hlR hfM hf3 hma hmb)
  have HQ0 := Lib.hid (lq_new w X M.length cM Y R.length cR st v A a.length ca st' v' A' b.length cb)
  have HK := Lib.hid hK
  have HM := Lib.hid hM
  have HR := Lib.hid hR
  have HA := Lib.hid hA
  have HB := Lib.hid hB
  cases hg : (xgreatB M R || decide (200 < a.length) || decide (200 < b.length))
  · simp only [Bool.or_eq_false_iff, decide_eq_false_iff_not] at hg
    obtain ⟨⟨hg1, hg2⟩, hg3⟩ := hg
    have hf4 := xgreat_four hg1 hf3
    have hgz : (xgreatB M R || decide (200 < a.length) || decide (200 < b.length)) = false := by rw [hg1, decide_eq_false hg2, decide_eq_false hg3]; rfl
    rw [hgz] at HG
    obtain ⟨hM3, hR3, hP3⟩ := xgreat_in hg1
    have hP4 := fun r hr => rgreat_few (hP3 r hr)
    have HCP := Lib.hid (fun W h1 h2 => turn_some rfl (xcopy_any X cM M Y cR R W h1 h2 (by omega) (by omega) (fun r hr => (hf4 r hr).2.1)))
    have HSA := Lib.hid (fun W h => schema_some (scopy_any st v A ca a W h (by omega)))
    have HSB := Lib.hid (fun W h => schema_some (scopy_any st' v' A' cb b W h (by omega)))
    have HIC := Lib.hid (fun (X1 : Option Addr) (c1 : Nat) (Y1 : Option Addr) (c2 : Nat) A1 c3 A2 c4 W k0 (k1 : MpAt M R (X1, Y1) (c1, c2) W) k2 k3 => icheck_any rchk_any X1 c1 M Y1 c2 R st v A1 c3 a st' v' A2 c4 b W k0 k1.1 k1.2.2 k2 k3 (by omega) (by omega) hlM k1.2.1 hfM hlR hf4)
    have HRC := Lib.hid (fun W k1 k2 k3 k4 => iref_any X cM M Y cR R st v A ca a st' v' A' cb b W k1 k2 k3 k4 (by omega) (by omega) (by omega) hlR hcM hfM hf3 (fun r hr => by have := hP4 r hr; omega))
    have HTN := Lib.hid (fun (X1 : Option Addr) (c1 : Nat) (Y1 : Option Addr) (c2 : Nat) W (k1 : MpAt M R (X1, Y1) (c1, c2) W) => turn_some (turn_len M) (iturn_any X1 c1 M Y1 c2 R W k1.1 k1.2.2 (by omega) (by omega) (fun r hr => (hf4 r hr).2.1)))
    have HRT := Lib.hid (fun W k1 k2 => turn_some (turn_len M) (irturn_any X cM M Y cR R W k1 k2 (by omega) (by omega) (fun r hr => (hf4 r hr).2.1)))
    have HSM : Hid (∀ (X1 : Option Addr) (c1 : Nat) (Y1 : Option Addr) (c2 : Nat) (X2 : Option Addr) (c3 : Nat) (Y2 : Option Addr) (c4 : Nat) W, MpAt (turnL M) (turnRs R) (X1, Y1) (c1, c2) W → MpAt (turnL M) (turnRs R) (X2, Y2) (c3, c4) W → Calls Tryd.prog 13 #[.agg #[.slice X1 M.length c1, .slice Y1 R.length c2], .agg #[.slice X2 M.length c3, .slice Y2 R.length c4]] W fun e w' => e = .returned (.bool true) ∧ Below W.heap.size W w') := fun X1 c1 Y1 c2 X2 c3 Y2 c4 W k1 k2 => by
      have := isame_yes X1 c1 (turnL M) Y1 c2 (turnRs R) X2 c3 Y2 c4 W k1.1 k1.2.2 k2.1 k2.2.2 (by rw [turn_len]; omega) (by rw [turnRs_len]; omega) (turn_few (fun r hr => (hf4 r hr).2.1))
      rw [turn_len, turnRs_len] at this
      exact this
    generalize invB st v a st' v' b M R = Z at *
    clear hK hM hR hA hB hlM hfM hcM hlR hf3 hma hmb hg1 hg2 hg3 hgz hf4 hM3 hR3 hP3 hP4
    generalize M.length = n at *
    generalize R.length = nr at *
    generalize a.length = la at *
    generalize b.length = lb at *
    go_enter Tryd.func3, Tryd.ntmps3
    go_wp2_with fail
    generalize (w.alloc (.cells #[.slice X n cM, .slice Y nr cR] 25)).alloc (.cells #[.int .i64 st, .int .i64 v, .slice A la ca, .int .i64 st', .int .i64 v', .slice A' lb cb] 29) = U at *
    refine (HAW.out _ (HK.out.below HQ0.out.1)).mono ?_
    rintro e w1 ⟨rfl, hb1⟩
    have HQ1 := Lib.hid (HQ0.out.below hb1)
    clear hb1 HQ0
    obtain ⟨⟨m0, m1⟩, a0, a1, a2, b0, b1, b2⟩ := HQ1.out.cells
    go_wp2_with fail
    clear m0 m1 a0 a1 a2 b0 b1 b2
    refine (HG.out _ (HM.out.below HQ1.out.1) (HR.out.below HQ1.out.1)).mono ?_
    rintro e w2 ⟨rfl, hb2⟩
    have HQ2 := Lib.hid (HQ1.out.below hb2)
    clear hb2 HQ1 HG
    go_wp2_with fail
    refine wp_region_noPanic ?_
    refine wp_region_held_drew (S := (fun u => Below w2.heap.size w2 u)) (by kernel_rfl) ((Below.refl _ _).drew) (fun hS => ?_)
    refine gv 0 (v := ?_) (fun u hu => ?_) hS ?_
    rotate_left
    · ((obtain ⟨⟨m0, m1⟩, a0, a1, a2, b0, b1, b2⟩ := (HQ2.out.below hu).cells); go_simp; try (with_reducible rfl))
    try simp only [puts]
    refine gv 2 (v := ?_) (fun u hu => ?_) hS ?_
    rotate_left
    · ((obtain ⟨⟨m0, m1⟩, a0, a1, a2, b0, b1, b2⟩ := (HQ2.out.below hu).cells); go_simp; try (with_reducible rfl))
    try simp only [puts]
    refine gv 3 (v := ?_) (fun u hu => ?_) hS ?_
    rotate_left
    · ((obtain ⟨⟨m0, m1⟩, a0, a1, a2, b0, b1, b2⟩ := (HQ2.out.below hu).cells); go_simp; try (with_reducible rfl))
    try simp only [puts]
    refine gv 5 (v := ?_) (fun u hu => ?_) hS ?_
    rotate_left
    · ((obtain ⟨⟨m0, m1⟩, a0, a1, a2, b0, b1, b2⟩ := (HQ2.out.below hu).cells); go_simp; try (with_reducible rfl))
    try simp only [puts]
    refine gv 6 (v := ?_) (fun u hu => ?_) hS ?_
    rotate_left
    · ((obtain ⟨⟨m0, m1⟩, a0, a1, a2, b0, b1, b2⟩ := (HQ2.out.below hu).cells); go_simp; try (with_reducible rfl))
    try simp only [puts]
    refine gv 9 (v := ?_) (fun u hu => ?_) hS ?_
    rotate_left
    · ((obtain ⟨⟨m0, m1⟩, a0, a1, a2, b0, b1, b2⟩ := (HQ2.out.below hu).cells); go_simp; try (with_reducible rfl))
    try simp only [puts]
    refine gv 10 (v := ?_) (fun u hu => ?_) hS ?_
    rotate_left
    · ((obtain ⟨⟨m0, m1⟩, a0, a1, a2, b0, b1, b2⟩ := (HQ2.out.below hu).cells); go_simp; try (with_reducible rfl))
    try simp only [puts]
    refine gv 11 (v := ?_) (fun u hu => ?_) hS ?_
    rotate_left
    · ((obtain ⟨⟨m0, m1⟩, a0, a1, a2, b0, b1, b2⟩ := (HQ2.out.below hu).cells); go_simp; try (with_reducible rfl))
    try simp only [puts]
    refine gv 12 (v := ?_) (fun u hu => ?_) hS ?_
    rotate_left
    · ((obtain ⟨⟨m0, m1⟩, a0, a1, a2, b0, b1, b2⟩ := (HQ2.out.below hu).cells); go_simp; try (with_reducible rfl))
    try simp only [puts]
    refine gv 13 (v := ?_) (fun u hu => ?_) hS ?_
    rotate_left
    · ((obtain ⟨⟨m0, m1⟩, a0, a1, a2, b0, b1, b2⟩ := (HQ2.out.below hu).cells); go_simp; try (with_reducible rfl))
    try simp only [puts]
    refine only_some (i := 1) 10 #[.agg #[.slice X n cM, .slice Y nr cR]] rfl (by kernel_rfl) (by rfl) ((HCP.out _ (HM.out.below (HQ2.out.below hS).1) (HR.out.below (HQ2.out.below hS).1))) ?_ ?_
    · (go_simp; try (with_reducible rfl))
    intro v1 w1 hT
    obtain ⟨⟨X1, Y1⟩, ⟨cx1, cy1⟩, rfl, ht1, hb⟩ := hT
    have hS' := hbt hS hb
    refine ⟨hS', ?_⟩
    clear hS
    have hS := hS'; clear hS'
    try simp only [puts]
    refine only_some (i := 4) 11 #[.agg #[.int .i64 st, .int .i64 v, .slice A la ca]] rfl (by kernel_rfl) (by rfl) ((HSA.out _ (HA.out.below (HQ2.out.below hS).1))) ?_ ?_
    · (go_simp; try (with_reducible rfl))
    intro v4 w4 hT
    obtain ⟨A4, c4, rfl, ht4, hb4⟩ := hT
    have hS' := hbt hS hb4
    refine ⟨hS', ?_⟩
    clear hS
    have hS := hS'; clear hS'
    try simp only [puts]
    replace ht1 := ht1.below hb4
    refine only_some (i := 7) 11 #[.agg #[.int .i64 st', .int .i64 v', .slice A' lb cb]] rfl (by kernel_rfl) (by rfl) ((HSB.out _ (HB.out.below (HQ2.out.below hS).1))) ?_ ?_
    · (go_simp; try (with_reducible rfl))
    intro v7 w7 hT
    obtain ⟨A7, c7, rfl, ht7, hb7⟩ := hT
    have hS' := hbt hS hb7
    refine ⟨hS', ?_⟩
    clear hS
    have hS := hS'; clear hS'
    try simp only [puts]
    replace ht1 := ht1.below hb7
    replace ht4 := ht4.below hb7
    refine only_call (i := 8) 9 #[.agg #[.slice X1 n cx1, .slice Y1 nr cy1], .agg #[.int .i64 st, .int .i64 v, .slice A4 la c4], .agg #[.int .i64 st', .int .i64 v', .slice A7 lb c7]] rfl (by kernel_rfl) (by rfl) ((HIC.out X1 cx1 Y1 cy1 A4 c4 A7 c7 _ (HK.out.below (HQ2.out.below hS).1) ht1 ht4 ht7).mono fun e w' he => ⟨he.1, hbt hS he.2⟩) ?_ ?_
    · (go_simp; try (with_reducible rfl))
    clear hS
    intro w8 hS
    try simp only [puts]
    clear ht1 ht4 ht7
    refine only_call (i := 14) 12 #[.agg #[.slice X n cM, .slice Y nr cR], .agg #[.int .i64 st, .int .i64 v, .slice A la ca], .agg #[.int .i64 st', .int .i64 v', .slice A' lb cb]] rfl (by kernel_rfl) (by rfl) ((HRC.out _ (HM.out.below (HQ2.out.below hS).1) (HR.out.below (HQ2.out.below hS).1) (HA.out.below (HQ2.out.below hS).1) (HB.out.below (HQ2.out.below hS).1)).mono fun e w' he => ⟨he.1, hbt hS he.2⟩) ?_ ?_
    · (go_simp; try (with_reducible rfl))
    clear hS
    intro w14 hS
    try simp only [puts]
    refine gv 15 (v := (.bool true)) (fun u hu => ?_) hS ?_
    · ((obtain ⟨⟨m0, m1⟩, a0, a1, a2, b0, b1, b2⟩ := (HQ2.out.below hu).cells); go_simp; skip)
    try simp only [puts]
    refine gv 16 (v := ?_) (fun u hu => ?_) hS ?_
    rotate_left
    · ((obtain ⟨⟨m0, m1⟩, a0, a1, a2, b0, b1, b2⟩ := (HQ2.out.below hu).cells); go_simp; try (with_reducible rfl))
    try simp only [puts]
    refine gv 17 (v := ?_) (fun u hu => ?_) hS ?_
    rotate_left
    · ((obtain ⟨⟨m0, m1⟩, a0, a1, a2, b0, b1, b2⟩ := (HQ2.out.below hu).cells); go_simp; try (with_reducible rfl))
    try simp only [puts]
    refine gv 20 (v := ?_) (fun u hu => ?_) hS ?_
    rotate_left
    · ((obtain ⟨⟨m0, m1⟩, a0, a1, a2, b0, b1, b2⟩ := (HQ2.out.below hu).cells); go_simp; try (with_reducible rfl))
    try simp only [puts]
    refine only_some (i := 18) 10 #[.agg #[.slice X n cM, .slice Y nr cR]] rfl (by kernel_rfl) (by rfl) ((HCP.out _ (HM.out.below (HQ2.out.below hS).1) (HR.out.below (HQ2.out.below hS).1))) ?_ ?_
    · (go_simp; try (with_reducible rfl))
    intro v18 w18 hT
    obtain ⟨⟨X2, Y2⟩, ⟨cx2, cy2⟩, rfl, ht2, hb⟩ := hT
    have hS' := hbt hS hb
    refine ⟨hS', ?_⟩
    clear hS
    have hS := hS'; clear hS'
    try simp only [puts]
    refine only_some (i := 19) 14 #[.agg #[.slice X2 n cx2, .slice Y2 nr cy2]] rfl (by kernel_rfl) (by rfl) ((HTN.out X2 cx2 Y2 cy2 _ ht2)) ?_ ?_
    · (go_simp; try (with_reducible rfl))
    intro v19 w19 hT
    obtain ⟨⟨X3, Y3⟩, ⟨cx3, cy3⟩, rfl, ht3, hb3⟩ := hT
    have hS' := hbt hS hb3
    refine ⟨hS', ?_⟩
    clear hS
    have hS := hS'; clear hS'
    try simp only [puts]
    clear ht2
    refine only_some (i := 21) 15 #[.agg #[.slice X n cM, .slice Y nr cR]] rfl (by kernel_rfl) (by rfl) ((HRT.out _ (HM.out.below (HQ2.out.below hS).1) (HR.out.below (HQ2.out.below hS).1))) ?_ ?_
    · (go_simp; try (with_reducible rfl))
    intro v21 w21 hT
    obtain ⟨⟨X4, Y4⟩, ⟨cx4, cy4⟩, rfl, ht4, hb4⟩ := hT
    have hS' := hbt hS hb4
    refine ⟨hS', ?_⟩
    clear hS
    have hS := hS'; clear hS'
    try simp only [puts]
    replace ht3 := ht3.below hb4
    refine only_call (i := 22) 13 #[.agg #[.slice X3 n cx3, .slice Y3 nr cy3], .agg #[.slice X4 n cx4, .slice Y4 nr cy4]] rfl (by kernel_rfl) (by rfl) ((HSM.out X3 cx3 Y3 cy3 X4 cx4 Y4 cy4 _ ht3 ht4).mono fun e w' he => ⟨he.1, hbt hS he.2⟩) ?_ ?_
    · (go_simp; try (with_reducible rfl))
    clear hS
    intro w22 hS
    try simp only [puts]
    refine gv 23 (v := ?_) (fun u hu => ?_) hS ?_
    rotate_left
    · ((obtain ⟨⟨m0, m1⟩, a0, a1, a2, b0, b1, b2⟩ := (HQ2.out.below hu).cells); go_simp; try (with_reducible rfl))
    try simp only [puts]
    refine gv 24 (v := ?_) (fun u hu => ?_) hS ?_
    rotate_left
    · ((obtain ⟨⟨m0, m1⟩, a0, a1, a2, b0, b1, b2⟩ := (HQ2.out.below hu).cells); go_simp; try (with_reducible rfl))
    try simp only [puts]
    refine wpAnyH_done (by kernel_rfl) (NoPanic.normal ?_) _
    go_wp2
    go_ret
    exact ⟨rfl, (HQ2.out.below hS).1⟩
  · rw [hg] at HG
    clear hK hM hR hA hB hlM hfM hcM hlR hf3 hma hmb hg
    generalize M.length = n at *
    generalize R.length = nr at *
    generalize a.length = la at *
    generalize b.length = lb at *
    go_enter Tryd.func3, Tryd.ntmps3
    go_wp2_with fail
    generalize (w.alloc (.cells #[.slice X n cM, .slice Y nr cR] 25)).alloc (.cells #[.int .i64 st, .int .i64 v, .slice A la ca, .int .i64 st', .int .i64 v', .slice A' lb cb] 29) = U at *
    refine (HAW.out _ (HK.out.below HQ0.out.1)).mono ?_
    rintro e w1 ⟨rfl, hb1⟩
    have HQ1 := Lib.hid (HQ0.out.below hb1)
    clear hb1 HQ0
    obtain ⟨⟨m0, m1⟩, a0, a1, a2, b0, b1, b2⟩ := HQ1.out.cells
    go_wp2_with fail
    clear m0 m1 a0 a1 a2 b0 b1 b2
    refine (HG.out _ (HM.out.below HQ1.out.1) (HR.out.below HQ1.out.1)).mono ?_
    rintro e w2 ⟨rfl, hb2⟩
    have HQ2 := Lib.hid (HQ1.out.below hb2)
    clear hb2 HQ1 HG
    go_wp2_with fail
    refine (HAW.out _ (HK.out.below HQ2.out.1)).mono ?_
    rintro e w9 ⟨rfl, hb9⟩
    have HQ9 := Lib.hid (HQ2.out.below hb9)
    clear hb9
    go_wp2
    go_ret
    exact ⟨rfl, HQ9.out.1⟩

end Go.Proofs.YtbhlennolghjmaaDoor
