/-
  The law InvertTurns: for every map and schemas, in every world where the table of kinds reads as it is laid.
-/
import Derived.Test.YtbhlennolghjmaaDoorInvLq
import Derived.Test.YtbhlennolghjmaaDoorInvTrn
import Derived.Test.YtbhlennolghjmaaDoorPackRul
namespace Go.Proofs.YtbhlennolghjmaaDoor
open Go.RowKit

set_option maxRecDepth 100000 in
set_option maxHeartbeats 25600000 in
theorem iturns_row (X : Option Addr) (cM : Nat) (M : List PairT) (Y : Option Addr) (cR : Nat) (R : List Ru) (st v : Int) (A : Option Addr) (ca : Nat) (a : List Sp) (st' v' : Int) (A' : Option Addr) (cb : Nat) (b : List Sp) (w : World) (hK : Kinds w) (hM : Prs w X M) (hlM : M.length ≤ maxLen) (hfM : Fit2 M) (hcM : M.length ≤ cM) (hR : Rls w Y R) (hlR : R.length ≤ maxLen) (hf3 : Fit3 R) (hA : Spl w A a) (hma : a.length ≤ maxLen) (hB : Spl w A' b) (hmb : b.length ≤ maxLen) :
    Calls Tryd.prog 4 #[.agg #[.slice X M.length cM, .slice Y R.length cR], .agg #[.int .i64 st, .int .i64 v, .slice A a.length ca, .int .i64 st', .int .i64 v', .slice A' b.length cb]] w fun e w' => e = .returned (.bool true) ∧ Below w.heap.size w w' := by
  have HAW := Lib.hid (fun W h => iawake_any W h)
  have HG := Lib.hid (fun W h1 h2 => ilgreat_any X cM M Y cR R st v A a.length ca st' v' A' b.length cb W h1 h2 hlM hlR hfM hf3 hma hmb)
  have HQ0 := Lib.hid (lq_new w X M.length cM Y R.length cR st v A a.length ca st' v' A' b.length cb)
  have HK := Lib.hid hK
  have HM := Lib.hid hM
  have HR := Lib.hid hR
  have HA := Lib.hid hA
  have HB := Lib.hid hB
  cases hg : (xgreatB M R || decide (200 < a.length) || decide (200 < b.length))
  · simp only [Bool.or_eq_false_iff, decide_eq_false_iff_not] at hg
    obtain ⟨⟨hg1, hg2⟩, hg3⟩ := hg
    have hf4 := xgreat_four hg1 hf3
    have hgz : (xgreatB M R || decide (200 < a.length) || decide (200 < b.length)) = false := by rw [hg1, decide_eq_false hg2, decide_eq_false hg3]; rfl
    rw [hgz] at HG
    obtain ⟨hM3, hR3, hP3⟩ := xgreat_in hg1
    have hP4 := fun r hr => rgreat_few (hP3 r hr)
    have HTN := Lib.hid (fun W k1 k2 => turn_some (turn_len M) (iturn_any X cM M Y cR R W k1 k2 (by omega) (by omega) (fun r hr => (hf4 r hr).2.1)))
    have HTT : Hid (∀ (X1 : Option Addr) (c1 : Nat) (Y1 : Option Addr) (c2 : Nat) W, MpAt (turnL M) (turnRs R) (X1, Y1) (c1, c2) W → Calls Tryd.prog 14 #[.agg #[.slice X1 M.length c1, .slice Y1 R.length c2]] W fun e w' => ∃ x, e = .returned x ∧ ∃ (A : Option Addr × Option Addr) (c : Nat × Nat), x = .agg #[.slice A.1 M.length c.1, .slice A.2 R.length c.2] ∧ MpAt M R A c w' ∧ Below W.heap.size W w') := fun X1 c1 Y1 c2 W k1 => by
      have := turn_some (turn_len (turnL M)) (iturn_any X1 c1 (turnL M) Y1 c2 (turnRs R) W k1.1 k1.2.2 (by rw [turn_len]; omega) (by rw [turnRs_len]; omega) (turn_few (fun r hr => (hf4 r hr).2.1)))
      rw [turn_turn, turnRs_twice, turn_len, turnRs_len] at this
      exact this
    have HSM := Lib.hid (fun (X1 : Option Addr) (c1 : Nat) (Y1 : Option Addr) (c2 : Nat) W (k1 : MpAt M R (X1, Y1) (c1, c2) W) k2 k3 => isame_yes X1 c1 M Y1 c2 R X cM Y cR W k1.1 k1.2.2 k2 k3 (by omega) (by omega) (fun r hr => (hf4 r hr).2.1))
    have HCK : Hid (∀ (X1 : Option Addr) (c1 : Nat) (Y1 : Option Addr) (c2 : Nat) W, Kinds W → MpAt (turnL M) (turnRs R) (X1, Y1) (c1, c2) W → Spl W A' b → Spl W A a → Calls Tryd.prog 16 #[.agg #[.slice X1 M.length c1, .slice Y1 R.length c2], .agg #[.int .i64 st', .int .i64 v', .slice A' b.length cb], .agg #[.int .i64 st, .int .i64 v, .slice A a.length ca]] W fun e w' => e = .returned (.tuple #[.int .i64 (xltN st' v' b st v a (turnL M) (turnRs R)).1, .int .i64 (xltN st' v' b st v a (turnL M) (turnRs R)).2.1, .int .i64 (xltN st' v' b st v a (turnL M) (turnRs R)).2.2]) ∧ Below W.heap.size W w') := fun X1 c1 Y1 c2 W k0 k1 k2 k3 => by
      have := xchk_any rchk_any X1 c1 (turnL M) Y1 c2 (turnRs R) st' v' A' cb b st v A ca a W k0 k1.1 k1.2.2 k2 k3 (by omega) (by omega) (by rw [turn_len]; exact hlM) k1.2.1 (by rw [turnRs_len]; exact hlR) (turn_four hf4)
      rw [turn_len, turnRs_len] at this
      exact this
    have HIC := Lib.hid (fun W k0 k1 k2 k3 k4 => icheck_any rchk_any X cM M Y cR R st v A ca a st' v' A' cb b W k0 k1 k2 k3 k4 (by omega) (by omega) hlM hcM hfM hlR hf4)
    have HZ := Lib.hid (fun h => inv_turn (st := st) (v := v) (a := a) (st' := st') (v' := v') (b := b) (M := M) (R := R) h)
    generalize invB st v a st' v' b M R = Z at *
    generalize xltN st' v' b st v a (turnL M) (turnRs R) = z at *
    obtain ⟨z1, z2, z3⟩ := z
    dsimp only at HCK
    clear hK hM hR hA hB hlM hfM hcM hlR hf3 hma hmb hg1 hg2 hg3 hgz hf4 hM3 hR3 hP3 hP4
    generalize M.length = n at *
    generalize R.length = nr at *
    generalize a.length = la at *
    generalize b.length = lb at *
    go_enter Tryd.func4, Tryd.ntmps4
    go_wp2_with fail
    generalize (w.alloc (.cells #[.slice X n cM, .slice Y nr cR] 25)).alloc (.cells #[.int .i64 st, .int .i64 v, .slice A la ca, .int .i64 st', .int .i64 v', .slice A' lb cb] 29) = U at *
    refine (HAW.out _ (HK.out.below HQ0.out.1)).mono ?_
    rintro e w1 ⟨rfl, hb1⟩
    have HQ1 := Lib.hid (HQ0.out.below hb1)
    clear hb1 HQ0
    obtain ⟨⟨m0, m1⟩, a0, a1, a2, b0, b1, b2⟩ := HQ1.out.cells
    go_wp2_with fail
    clear m0 m1 a0 a1 a2 b0 b1 b2
    refine (HG.out _ (HM.out.below HQ1.out.1) (HR.out.below HQ1.out.1)).mono ?_
    rintro e w2 ⟨rfl, hb2⟩
    have HQ2 := Lib.hid (HQ1.out.below hb2)
    clear hb2 HQ1 HG
    obtain ⟨⟨m0, m1⟩, a0, a1, a2, b0, b1, b2⟩ := HQ2.out.cells
    go_wp2_with fail
    clear m0 m1 a0 a1 a2 b0 b1 b2
    refine (HTN.out _ (HM.out.below HQ2.out.1) (HR.out.below HQ2.out.1)).mono ?_
    rintro e w3 ⟨x, rfl, ⟨X1, Y1⟩, ⟨cx1, cy1⟩, rfl, ht3, hb3⟩
    have hbn := below_al w3 (.cells #[.slice X1 n cx1, .slice Y1 nr cy1] 25)
    have HQ4 := Lib.hid (HQ2.out.below (hbt hb3 hbn))
    have HT4 := Lib.hid (ht3.below hbn)
    have HM4 : Hid (MpBox (w3.alloc (.cells #[.slice X1 n cx1, .slice Y1 nr cy1] 25)) w3.heap.size X1 n cx1 Y1 nr cy1) := heap_alloc_new _ _
    clear hbn hb3 ht3 HQ2 HTN
    go_upto_region 4 with fail
    generalize w3.alloc (.cells #[.slice X1 n cx1, .slice Y1 nr cy1] 25) = W4 at *
    generalize w3.heap.size = g4 at *
    refine wp_region_noPanic ?_
    refine wp_region_held_drew (S := (fun u => Below W4.heap.size W4 u)) (by kernel_rfl) ((Below.refl _ _).drew) (fun hS => ?_)
    refine gv 0 (v := ?_) (fun u hu => ?_) hS ?_
    rotate_left
    · ((obtain ⟨⟨m0, m1⟩, _⟩ := (HQ4.out.below hu).cells; obtain ⟨n0, n1, _, _⟩ := obj_cells (HM4.out.below hu)); go_simp; try (with_reducible rfl))
    try simp only [puts]
    refine gv 2 (v := ?_) (fun u hu => ?_) hS ?_
    rotate_left
    · ((obtain ⟨⟨m0, m1⟩, _⟩ := (HQ4.out.below hu).cells; obtain ⟨n0, n1, _, _⟩ := obj_cells (HM4.out.below hu)); go_simp; try (with_reducible rfl))
    try simp only [puts]
    refine only_some (i := 1) 14 #[.agg #[.slice X1 n cx1, .slice Y1 nr cy1]] rfl (by kernel_rfl) (by rfl) ((HTT.out X1 cx1 Y1 cy1 _ (HT4.out.below hS))) ?_ ?_
    · (go_simp; try (with_reducible rfl))
    intro v1 w1 hT
    obtain ⟨⟨X2, Y2⟩, ⟨cx2, cy2⟩, rfl, ht5, hb5⟩ := hT
    have hS' := hbt hS hb5
    refine ⟨hS', ?_⟩
    clear hS
    have hS := hS'; clear hS'
    try simp only [puts]
    refine only_call (i := 3) 13 #[.agg #[.slice X2 n cx2, .slice Y2 nr cy2], .agg #[.slice X n cM, .slice Y nr cR]] rfl (by kernel_rfl) (by rfl) ((HSM.out X2 cx2 Y2 cy2 _ ht5 (HM.out.below (HQ4.out.below hS).1) (HR.out.below (HQ4.out.below hS).1)).mono fun e w' he => ⟨he.1, hbt hS he.2⟩) ?_ ?_
    · (go_simp; try (with_reducible rfl))
    clear hS
    intro w3 hS
    try simp only [puts]
    refine gv 4 (v := ?_) (fun u hu => ?_) hS ?_
    rotate_left
    · ((obtain ⟨⟨m0, m1⟩, _⟩ := (HQ4.out.below hu).cells; obtain ⟨n0, n1, _, _⟩ := obj_cells (HM4.out.below hu)); go_simp; try (with_reducible rfl))
    try simp only [puts]
    refine wpAnyH_done (by kernel_rfl) (NoPanic.normal ?_) _
    have HQ6 := Lib.hid (HQ4.out.below hS)
    have HT6 := Lib.hid (HT4.out.below hS)
    have HM6 := Lib.hid (HM4.out.below hS)
    clear hS ht5 HQ4 HT4 HM4 HTT HSM
    obtain ⟨⟨m0, m1⟩, a0, a1, a2, b0, b1, b2⟩ := HQ6.out.cells
    obtain ⟨n0, n1, _, _⟩ := obj_cells HM6.out
    go_wp2_with fail
    clear m0 m1 a0 a1 a2 b0 b1 b2 n0 n1
    refine (HCK.out X1 cx1 Y1 cy1 _ (HK.out.below HQ6.out.1) HT6.out (HB.out.below HQ6.out.1) (HA.out.below HQ6.out.1)).mono ?_
    rintro e w7 ⟨rfl, hb7⟩
    have HQ7 := Lib.hid (HQ6.out.below hb7)
    clear hb7 HQ6 HT6 HM6 HCK
    obtain ⟨⟨m0, m1⟩, a0, a1, a2, b0, b1, b2⟩ := HQ7.out.cells
    go_wp2_with fail
    clear m0 m1 a0 a1 a2 b0 b1 b2
    refine (HIC.out _ (HK.out.below HQ7.out.1) (HM.out.below HQ7.out.1) (HR.out.below HQ7.out.1) (HA.out.below HQ7.out.1) (HB.out.below HQ7.out.1)).mono ?_
    rintro e w8 ⟨rfl, hb8⟩
    have HQ8 := Lib.hid (HQ7.out.below hb8)
    clear hb8 HQ7
    cases Z
    · go_wp2
      go_ret
      exact ⟨rfl, HQ8.out.1⟩
    · have hz := HZ.out rfl
      injection hz with hz1 hz2
      injection hz2 with hz2 hz3
      subst hz1 hz2 hz3
      go_wp2
      go_ret
      exact ⟨rfl, HQ8.out.1⟩
  · rw [hg] at HG
    clear hK hM hR hA hB hlM hfM hcM hlR hf3 hma hmb hg
    generalize M.length = n at *
    generalize R.length = nr at *
    generalize a.length = la at *
    generalize b.length = lb at *
    go_enter Tryd.func4, Tryd.ntmps4
    go_wp2_with fail
    generalize (w.alloc (.cells #[.slice X n cM, .slice Y nr cR] 25)).alloc (.cells #[.int .i64 st, .int .i64 v, .slice A la ca, .int .i64 st', .int .i64 v', .slice A' lb cb] 29) = U at *
    refine (HAW.out _ (HK.out.below HQ0.out.1)).mono ?_
    rintro e w1 ⟨rfl, hb1⟩
    have HQ1 := Lib.hid (HQ0.out.below hb1)
    clear hb1 HQ0
    obtain ⟨⟨m0, m1⟩, a0, a1, a2, b0, b1, b2⟩ := HQ1.out.cells
    go_wp2_with fail
    clear m0 m1 a0 a1 a2 b0 b1 b2
    refine (HG.out _ (HM.out.below HQ1.out.1) (HR.out.below HQ1.out.1)).mono ?_
    rintro e w2 ⟨rfl, hb2⟩
    have HQ2 := Lib.hid (HQ1.out.below hb2)
    clear hb2 HQ1 HG
    go_wp2_with fail
    refine (HAW.out _ (HK.out.below HQ2.out.1)).mono ?_
    rintro e w9 ⟨rfl, hb9⟩
    have HQ9 := Lib.hid (HQ2.out.below hb9)
    clear hb9
    go_wp2
    go_ret
    exact ⟨rfl, HQ9.out.1⟩

end Go.Proofs.YtbhlennolghjmaaDoor
