/-
  The law XlateChecks: for every map and schemas, in every world where the table of kinds reads as it is laid.
-/
import Derived.Test.YthheflgfbdcnlaaGreatDoorXltAwk
import Derived.Test.YthheflgfbdcnlaaGreatDoorXltRef
import Derived.Test.YthheflgfbdcnlaaGreatDoorXltCopy
import Derived.Test.YthheflgfbdcnlaaGreatDoorPackSch
import Derived.Test.YthheflgfbdcnlaaGreatDoorRulChk
import Derived.Test.YthheflgfbdcnlaaGreatDoorRulDo
namespace Go.Proofs.YthheflgfbdcnlaaGreatDoor
open Go.RowKit

/-- Where a map's lists stand. -/
def MpIn (M : List PairT) (R : List Ru) (A : Option Addr × Option Addr) (c : Nat × Nat) (u : World) : Prop := Prs u A.1 M ∧ M.length ≤ c.1 ∧ Rls u A.2 R
theorem MpIn.below {M : List PairT} {R : List Ru} {A : Option Addr × Option Addr} {c : Nat × Nat} {u u' : World} (h : MpIn M R A c u) (hb : Below u.heap.size u u') : MpIn M R A c u' := ⟨h.1.below hb, h.2.1, h.2.2.below hb⟩
theorem map_some {P : Program} {f : FuncId} {args : Array Value} {W : World} {M : List PairT} {R : List Ru} (h : Calls P f args W fun e w' => ∃ X' c Y' c', e = .returned (.agg #[.slice X' M.length c, .slice Y' R.length c']) ∧ Prs w' X' M ∧ M.length ≤ c ∧ Rls w' Y' R ∧ Below W.heap.size W w') :
    Calls P f args W fun e w' => ∃ v, e = .returned v ∧ ∃ (A : Option Addr × Option Addr) (c : Nat × Nat), v = .agg #[.slice A.1 M.length c.1, .slice A.2 R.length c.2] ∧ MpIn M R A c w' ∧ Below W.heap.size W w' :=
  h.mono fun _ _ ⟨X', c, Y', c', he, k1, k2, k3, k4⟩ => ⟨_, he, (X', Y'), (c, c'), rfl, ⟨k1, k2, k3⟩, k4⟩
theorem sch_some {P : Program} {f : FuncId} {args : Array Value} {W : World} {st v : Int} {a : List Sp} (h : Calls P f args W fun e w' => ∃ A' c', e = .returned (.agg #[.int .i64 st, .int .i64 v, .slice A' a.length c']) ∧ Spl w' A' a ∧ Below W.heap.size W w') :
    Calls P f args W fun e w' => ∃ x, e = .returned x ∧ ∃ A' c', x = .agg #[.int .i64 st, .int .i64 v, .slice A' a.length c'] ∧ Spl w' A' a ∧ Below W.heap.size W w' :=
  h.mono fun _ _ ⟨A', c', he, k1, k2⟩ => ⟨_, he, A', c', rfl, k1, k2⟩

set_option maxRecDepth 100000 in
set_option maxHeartbeats 25600000 in
theorem xchecks_row (X : Option Addr) (cM : Nat) (M : List PairT) (Y : Option Addr) (cR : Nat) (R : List Ru) (st v : Int) (A : Option Addr) (ca : Nat) (a : List Sp) (st' v' : Int) (A' : Option Addr) (cb : Nat) (b : List Sp) (w : World) (hK : Kinds w) (hM : Prs w X M) (hlM : M.length ≤ maxLen) (hfM : Fit2 M) (hcM : M.length ≤ cM) (hR : Rls w Y R) (hlR : R.length ≤ maxLen) (hf3 : Fit3 R) (hA : Spl w A a) (hma : a.length ≤ maxLen) (hB : Spl w A' b) (hmb : b.length ≤ maxLen) :
    Calls Tryz.prog 3 #[.agg #[.slice X M.length cM, .slice Y R.length cR], .agg #[.int .i64 st, .int .i64 v, .slice A a.length ca, .int .i64 st', .int .i64 v', .slice A' b.length cb]] w fun e w' => e = .returned (.bool true) ∧ Below w.heap.size w w' := by
  have HAW := Lib.hid (fun W h => xawake_any rchk_any rapp_any W h)
  have HG := Lib.hid (fun W h1 h2 => xlgreat_any X cM M Y cR R st v A a.length ca st' v' A' b.length cb W h1 h2 hlM hlR hfM hf3 hma hmb)
  have HQ0 := Lib.hid (lq_new w X M.length cM Y R.length cR st v A a.length ca st' v' A' b.length cb)
  have HK := Lib.hid hK
  have HM := Lib.hid hM
  have HR := Lib.hid hR
  have HA := Lib.hid hA
  have HB := Lib.hid hB
  cases hg : (xgreatB M R || decide (200 < a.length) || decide (200 < b.length))
  · simp only [Bool.or_eq_false_iff, decide_eq_false_iff_not] at hg
    obtain ⟨⟨hg1, hg2⟩, hg3⟩ := hg
    have hf4 := xgreat_four hg1 hf3
    have hgz : (xgreatB M R || decide (200 < a.length) || decide (200 < b.length)) = false := by rw [hg1, decide_eq_false hg2, decide_eq_false hg3]; rfl
    rw [hgz] at HG
    obtain ⟨hM3, hR3, _⟩ := xgreat_in hg1
    have HCP := Lib.hid (fun W h1 h2 => map_some (xcopy_any X cM M Y cR R W h1 h2 (by omega) (by omega) (fun r hr => (hf4 r hr).2.1)))
    have HSA := Lib.hid (fun W h => sch_some (scopy_any st v A ca a W h (by omega)))
    have HSB := Lib.hid (fun W h => sch_some (scopy_any st' v' A' cb b W h (by omega)))
    have HCK := Lib.hid (fun X' c Y' c' A1 c1 A2 c2 W k0 (k1 : MpIn M R (X', Y') (c, c') W) k2 k3 => xchk_any rchk_any X' c M Y' c' R st v A1 c1 a st' v' A2 c2 b W k0 k1.1 k1.2.2 k2 k3 (by omega) (by omega) hlM k1.2.1 hlR hf4)
    have HRF := Lib.hid (fun W k1 k2 k3 k4 => xcref_any X cM M Y cR R st v A ca a st' v' A' cb b W k1 k2 k3 k4 (by omega) (by omega) hlM hlR hcM hfM hf3)
    generalize (xltN st v a st' v' b M R).1 = z1 at *
    generalize (xltN st v a st' v' b M R).2.1 = z2 at *
    generalize (xltN st v a st' v' b M R).2.2 = z3 at *
    clear hK hM hR hA hB hlM hfM hcM hlR hf3 hma hmb hg1 hg2 hg3 hgz hf4 hM3 hR3
    generalize M.length = n at *
    generalize R.length = nr at *
    generalize a.length = la at *
    generalize b.length = lb at *
    go_enter Tryz.func3, Tryz.ntmps3
    go_wp2_with fail
    generalize (w.alloc (.cells #[.slice X n cM, .slice Y nr cR] 25)).alloc (.cells #[.int .i64 st, .int .i64 v, .slice A la ca, .int .i64 st', .int .i64 v', .slice A' lb cb] 29) = U at *
    refine (HAW.out _ (HK.out.below HQ0.out.1)).mono ?_
    rintro e w1 ⟨rfl, hb1⟩
    have HQ1 := Lib.hid (HQ0.out.below hb1)
    clear hb1 HQ0
    obtain ⟨⟨m0, m1⟩, a0, a1, a2, b0, b1, b2⟩ := HQ1.out.cells
    go_wp2_with fail
    clear m0 m1 a0 a1 a2 b0 b1 b2
    refine (HG.out _ (HM.out.below HQ1.out.1) (HR.out.below HQ1.out.1)).mono ?_
    rintro e w2 ⟨rfl, hb2⟩
    have HQ2 := Lib.hid (HQ1.out.below hb2)
    clear hb2 HQ1
    go_wp2_with fail
    refine wp_region_noPanic ?_
    refine wp_region_held_drew (S := (fun u => Below w2.heap.size w2 u)) (by kernel_rfl) ((Below.refl _ _).drew) (fun hS => ?_)
    refine gv 0 (v := ?_) (fun u hu => ?_) hS ?_
    rotate_left
    · ((obtain ⟨⟨m0, m1⟩, a0, a1, a2, b0, b1, b2⟩ := (HQ2.out.below hu).cells); go_simp; try (with_reducible rfl))
    try simp only [puts]
    refine gv 2 (v := ?_) (fun u hu => ?_) hS ?_
    rotate_left
    · ((obtain ⟨⟨m0, m1⟩, a0, a1, a2, b0, b1, b2⟩ := (HQ2.out.below hu).cells); go_simp; try (with_reducible rfl))
    try simp only [puts]
    refine gv 3 (v := ?_) (fun u hu => ?_) hS ?_
    rotate_left
    · ((obtain ⟨⟨m0, m1⟩, a0, a1, a2, b0, b1, b2⟩ := (HQ2.out.below hu).cells); go_simp; try (with_reducible rfl))
    try simp only [puts]
    refine gv 5 (v := ?_) (fun u hu => ?_) hS ?_
    rotate_left
    · ((obtain ⟨⟨m0, m1⟩, a0, a1, a2, b0, b1, b2⟩ := (HQ2.out.below hu).cells); go_simp; try (with_reducible rfl))
    try simp only [puts]
    refine gv 6 (v := ?_) (fun u hu => ?_) hS ?_
    rotate_left
    · ((obtain ⟨⟨m0, m1⟩, a0, a1, a2, b0, b1, b2⟩ := (HQ2.out.below hu).cells); go_simp; try (with_reducible rfl))
    try simp only [puts]
    refine only_some (i := 1) 9 #[.agg #[.slice X n cM, .slice Y nr cR]] rfl (by kernel_rfl) (by rfl) ((HCP.out _ (HM.out.below (HQ2.out.below hS).1) (HR.out.below (HQ2.out.below hS).1))) ?_ ?_
    · (go_simp; try (with_reducible rfl))
    intro v1 w1 hT
    obtain ⟨⟨X1, Y1⟩, ⟨cx1, cy1⟩, rfl, ht1, hb⟩ := hT
    have hS' := hbt hS hb
    refine ⟨hS', ?_⟩
    clear hS
    have hS := hS'; clear hS'
    try simp only [puts]
    refine only_some (i := 4) 10 #[.agg #[.int .i64 st, .int .i64 v, .slice A la ca]] rfl (by kernel_rfl) (by rfl) ((HSA.out _ (HA.out.below (HQ2.out.below hS).1))) ?_ ?_
    · (go_simp; try (with_reducible rfl))
    intro v4 w4 hT
    obtain ⟨A4, c4, rfl, ht4, hb4⟩ := hT
    have hS' := hbt hS hb4
    refine ⟨hS', ?_⟩
    clear hS
    have hS := hS'; clear hS'
    try simp only [puts]
    replace ht1 := ht1.below hb4
    refine only_some (i := 7) 10 #[.agg #[.int .i64 st', .int .i64 v', .slice A' lb cb]] rfl (by kernel_rfl) (by rfl) ((HSB.out _ (HB.out.below (HQ2.out.below hS).1))) ?_ ?_
    · (go_simp; try (with_reducible rfl))
    intro v7 w7 hT
    obtain ⟨A7, c7, rfl, ht7, hb7⟩ := hT
    have hS' := hbt hS hb7
    refine ⟨hS', ?_⟩
    clear hS
    have hS := hS'; clear hS'
    try simp only [puts]
    replace ht1 := ht1.below hb7
    replace ht4 := ht4.below hb7
    refine only_call (i := 8) 8 #[.agg #[.slice X1 n cx1, .slice Y1 nr cy1], .agg #[.int .i64 st, .int .i64 v, .slice A4 la c4], .agg #[.int .i64 st', .int .i64 v', .slice A7 lb c7]] rfl (by kernel_rfl) (by rfl) ((HCK.out X1 cx1 Y1 cy1 A4 c4 A7 c7 _ (HK.out.below (HQ2.out.below hS).1) ht1 ht4 ht7).mono fun e w' he => ⟨he.1, hbt hS he.2⟩) ?_ ?_
    · (go_simp; try (with_reducible rfl))
    clear hS
    intro w8 hS
    try simp only [puts]
    refine gv 9 (v := ?_) (fun u hu => ?_) hS ?_
    rotate_left
    · ((obtain ⟨⟨m0, m1⟩, a0, a1, a2, b0, b1, b2⟩ := (HQ2.out.below hu).cells); go_simp; try (with_reducible rfl))
    try simp only [puts]
    refine gv 10 (v := ?_) (fun u hu => ?_) hS ?_
    rotate_left
    · ((obtain ⟨⟨m0, m1⟩, a0, a1, a2, b0, b1, b2⟩ := (HQ2.out.below hu).cells); go_simp; try (with_reducible rfl))
    try simp only [puts]
    refine gv 11 (v := ?_) (fun u hu => ?_) hS ?_
    rotate_left
    · ((obtain ⟨⟨m0, m1⟩, a0, a1, a2, b0, b1, b2⟩ := (HQ2.out.below hu).cells); go_simp; try (with_reducible rfl))
    try simp only [puts]
    refine gv 12 (v := ?_) (fun u hu => ?_) hS ?_
    rotate_left
    · ((obtain ⟨⟨m0, m1⟩, a0, a1, a2, b0, b1, b2⟩ := (HQ2.out.below hu).cells); go_simp; try (with_reducible rfl))
    try simp only [puts]
    refine gv 13 (v := ?_) (fun u hu => ?_) hS ?_
    rotate_left
    · ((obtain ⟨⟨m0, m1⟩, a0, a1, a2, b0, b1, b2⟩ := (HQ2.out.below hu).cells); go_simp; try (with_reducible rfl))
    try simp only [puts]
    refine gv 14 (v := ?_) (fun u hu => ?_) hS ?_
    rotate_left
    · ((obtain ⟨⟨m0, m1⟩, a0, a1, a2, b0, b1, b2⟩ := (HQ2.out.below hu).cells); go_simp; try (with_reducible rfl))
    try simp only [puts]
    refine gv 15 (v := ?_) (fun u hu => ?_) hS ?_
    rotate_left
    · ((obtain ⟨⟨m0, m1⟩, a0, a1, a2, b0, b1, b2⟩ := (HQ2.out.below hu).cells); go_simp; try (with_reducible rfl))
    try simp only [puts]
    refine wpAnyH_done (by kernel_rfl) (NoPanic.normal ?_) _
    have HQ3 := Lib.hid (HQ2.out.below hS)
    clear hS HQ2 HCK HCP HSA HSB
    obtain ⟨⟨m0, m1⟩, a0, a1, a2, b0, b1, b2⟩ := HQ3.out.cells
    go_wp2_with fail
    clear m0 m1 a0 a1 a2 b0 b1 b2
    refine (HRF.out _ (HM.out.below HQ3.out.1) (HR.out.below HQ3.out.1) (HA.out.below HQ3.out.1) (HB.out.below HQ3.out.1)).mono ?_
    rintro e w5 ⟨rfl, hb5⟩
    have HQ5 := Lib.hid (HQ3.out.below hb5)
    clear hb5 HQ3
    go_wp2
    go_ret
    exact ⟨by simp, HQ5.out.1⟩
  · rw [hg] at HG
    clear hK hM hR hA hB hlM hfM hcM hlR hf3 hma hmb hg
    generalize M.length = n at *
    generalize R.length = nr at *
    generalize a.length = la at *
    generalize b.length = lb at *
    go_enter Tryz.func3, Tryz.ntmps3
    go_wp2_with fail
    generalize (w.alloc (.cells #[.slice X n cM, .slice Y nr cR] 25)).alloc (.cells #[.int .i64 st, .int .i64 v, .slice A la ca, .int .i64 st', .int .i64 v', .slice A' lb cb] 29) = U at *
    refine (HAW.out _ (HK.out.below HQ0.out.1)).mono ?_
    rintro e w1 ⟨rfl, hb1⟩
    have HQ1 := Lib.hid (HQ0.out.below hb1)
    clear hb1 HQ0
    obtain ⟨⟨m0, m1⟩, a0, a1, a2, b0, b1, b2⟩ := HQ1.out.cells
    go_wp2_with fail
    clear m0 m1 a0 a1 a2 b0 b1 b2
    refine (HG.out _ (HM.out.below HQ1.out.1) (HR.out.below HQ1.out.1)).mono ?_
    rintro e w2 ⟨rfl, hb2⟩
    have HQ2 := Lib.hid (HQ1.out.below hb2)
    clear hb2 HQ1
    go_wp2_with fail
    refine (HAW.out _ (HK.out.below HQ2.out.1)).mono ?_
    rintro e w4 ⟨rfl, hb4⟩
    have HQ4 := Lib.hid (HQ2.out.below hb4)
    clear hb4
    go_wp2
    go_ret
    exact ⟨rfl, HQ4.out.1⟩

end Go.Proofs.YthheflgfbdcnlaaGreatDoor
