/-
  The law XlateAll: for every map, schemas and message, in every world where the table of kinds reads as it is laid.
-/
import Derived.Test.YthheflgfbdcnlaaGreatDoorXltLm
import Derived.Test.YthheflgfbdcnlaaGreatDoorXltGreat
import Derived.Test.YthheflgfbdcnlaaGreatDoorPackMsg
import Derived.Test.YthheflgfbdcnlaaGreatDoorRulChk
import Derived.Test.YthheflgfbdcnlaaGreatDoorRulDo
namespace Go.Proofs.YthheflgfbdcnlaaGreatDoor
open Go.RowKit

/-- Which field can't, told where a pair has the MTI. -/
theorem xerr_told {st v : Int} {a : List Sp} {st' v' : Int} {b : List Sp} {M : List PairT} {R : List Ru} {m : ByteArray} {l : List Item} (h1 : (xltN st v a st' v' b M R).1 = 0) (h2 : (msgN st v a m l).1 = 0) (ha : appB M m = true) : (xltT st v a st' v' b M R m l).2.2 = xerr b R l := by
  by_cases h : (xerr b R l).1 = 0
  · rw [xt_ok h1 h2 ha h, xerr_all (xerr_zero h)]
  · rw [xt_field h1 h2 ha h]
/-- What is wanted so far is the answer, or nothing is wrong with what has been seen. -/
def XInv (b : List Sp) (R : List Ru) (l : List Item) (ap : Bool) (e y : Int × Int) (q : Nat) : Prop := (y.1 ≠ 0 ∧ y = e) ∨ (y = (0, 0) ∧ ap = true ∧ xerr b R l = xerr b R (l.drop q))
set_option maxRecDepth 100000 in
set_option maxHeartbeats 25600000 in
theorem xall_row (X : Option Addr) (cM : Nat) (M : List PairT) (Y : Option Addr) (cR : Nat) (R : List Ru) (st v : Int) (A : Option Addr) (ca : Nat) (a : List Sp) (st' v' : Int) (A' : Option Addr) (cb : Nat) (b : List Sp) (m : ByteArray) (B : Option Addr) (cx : Nat) (l : List Item) (w : World) (hK : Kinds w) (hM : Prs w X M) (hlM : M.length ≤ maxLen) (hfM : Fit2 M) (hcM : M.length ≤ cM) (hR : Rls w Y R) (hlR : R.length ≤ maxLen) (hf3 : Fit3 R) (hA : Spl w A a) (hma : a.length ≤ maxLen) (hB : Spl w A' b) (hmb : b.length ≤ maxLen) (hm : m.size ≤ maxLen) (hI : Tlvs w B l) (_ : l.length ≤ maxLen) (hs : ∀ x ∈ l, x.2.size ≤ maxLen) :
    Calls Tryz.prog 5 #[.agg #[.slice X M.length cM, .slice Y R.length cR], .agg #[.int .i64 st, .int .i64 v, .slice A a.length ca, .int .i64 st', .int .i64 v', .slice A' b.length cb], .agg #[.string m, .slice B l.length cx]] w fun e w' => e = .returned (.bool true) ∧ Below w.heap.size w w' := by
  have HAW := Lib.hid (fun W h => xawake_any rchk_any rapp_any W h)
  have HG := Lib.hid (fun W h1 h2 => xlgreat_any X cM M Y cR R st v A a.length ca st' v' A' b.length cb W h1 h2 hlM hlR hfM hf3 hma hmb)
  have HGM := Lib.hid (fun W h => mgreat_any m B cx l W h hs)
  have HQ0 := Lib.hid (lm_new w X M.length cM Y R.length cR st v A a.length ca st' v' A' b.length cb m B l.length cx)
  have HK := Lib.hid hK
  have HM := Lib.hid hM
  have HR := Lib.hid hR
  have HA := Lib.hid hA
  have HB := Lib.hid hB
  have HI := Lib.hid hI
  cases hg : (xgreatB M R || decide (200 < a.length) || decide (200 < b.length))
  · simp only [Bool.or_eq_false_iff, decide_eq_false_iff_not] at hg
    obtain ⟨⟨hg1, hg2⟩, hg3⟩ := hg
    have hf4 := xgreat_four hg1 hf3
    have hgz : (xgreatB M R || decide (200 < a.length) || decide (200 < b.length)) = false := by rw [hg1, decide_eq_false hg2, decide_eq_false hg3]; rfl
    rw [hgz] at HG
    cases hgm : greatM m l
    · rw [hgm] at HGM
      have hl2 := (great_in hgm).2.1
      have HRT := Lib.hid (fun W k1 k2 k3 k4 => xright_any X cM M Y cR R st v A ca a st' v' A' cb b W k1 k2 k3 k4 (by omega) (by omega) hlM hlR hcM hfM hf3)
      cases hr : decide ((xltN st v a st' v' b M R).1 = 0)
      · rw [hr] at HRT
        clear hr hK hM hR hA hB hI hlM hfM hcM hlR hf3 hma hmb hs hm hg1 hg2 hg3 hgz hf4 hgm hl2
        generalize M.length = n at *
        generalize R.length = nr at *
        generalize a.length = la at *
        generalize b.length = lb at *
        generalize l.length = lx at *
        go_enter Tryz.func5, Tryz.ntmps5
        go_wp2_with fail
        generalize ((w.alloc (.cells #[.slice X n cM, .slice Y nr cR] 25)).alloc (.cells #[.int .i64 st, .int .i64 v, .slice A la ca, .int .i64 st', .int .i64 v', .slice A' lb cb] 29)).alloc (.cells #[.string m, .slice B lx cx] 41) = U at *
        refine (HAW.out _ (HK.out.below HQ0.out.1.1)).mono ?_
        rintro e w1 ⟨rfl, hb1⟩
        have HQ1 := Lib.hid (HQ0.out.below hb1)
        clear hb1 HQ0
        obtain ⟨⟨m0, m1⟩, a0, a1, a2, b0, b1, b2⟩ := HQ1.out.1.cells
        go_wp2_with fail
        clear m0 m1 a0 a1 a2 b0 b1 b2
        refine (HG.out _ (HM.out.below HQ1.out.1.1) (HR.out.below HQ1.out.1.1)).mono ?_
        rintro e w2 ⟨rfl, hb2⟩
        have HQ2 := Lib.hid (HQ1.out.below hb2)
        clear hb2 HQ1
        obtain ⟨x0, x1, _, _⟩ := obj_cells HQ2.out.2
        go_wp2_with fail
        clear x0 x1
        refine (HGM.out _ (HI.out.below HQ2.out.1.1)).mono ?_
        rintro e w3 ⟨rfl, hb3⟩
        have HQ3 := Lib.hid (HQ2.out.below hb3)
        clear hb3 HQ2
        obtain ⟨⟨m0, m1⟩, a0, a1, a2, b0, b1, b2⟩ := HQ3.out.1.cells
        go_wp2_with fail
        clear m0 m1 a0 a1 a2 b0 b1 b2
        refine (HRT.out _ (HM.out.below HQ3.out.1.1) (HR.out.below HQ3.out.1.1) (HA.out.below HQ3.out.1.1) (HB.out.below HQ3.out.1.1)).mono ?_
        rintro e w4 ⟨rfl, hb4⟩
        have HQ4 := Lib.hid (HQ3.out.below hb4)
        clear hb4 HQ3
        go_wp2_with fail
        refine (HAW.out _ (HK.out.below HQ4.out.1.1)).mono ?_
        rintro e w8 ⟨rfl, hb8⟩
        have HQ8 := Lib.hid (HQ4.out.below hb8)
        clear hb8
        go_wp2
        go_ret
        exact ⟨rfl, HQ8.out.1.1⟩
      rw [hr] at HRT
      have h1 : (xltN st v a st' v' b M R).1 = 0 := of_decide_eq_true hr
      have HMC := Lib.hid (fun W k1 k2 => mrcheck_any st v A ca a m B cx l W k1 k2 (by omega) (by omega) hs hm)
      by_cases h2 : (msgN st v a m l).1 = 0
      · have h2z := msgN_told h2
        rw [h2z] at HMC
        dsimp only at HMC
        obtain ⟨h0m, h1m⟩ := xlt_alone h2z
        have HTX := Lib.hid (fun W k0 k1 k2 k3 k4 k5 => xtrans_any rchk_any rapp_any X cM M Y cR R st v A ca a st' v' A' cb b m B cx l W k0 k1 k2 k3 k4 k5 (by omega) (by omega) hlM hcM hlR hf4 (by omega) hs)
        have HT0 := Lib.hid (fun W k0 k1 k2 k3 k4 => xtrans_any rchk_any rapp_any X cM M Y cR R st v A ca a st' v' A' cb b m none 0 [] W k0 k1 k2 k3 k4 (tlvs_nil _ _) (by omega) (by omega) hlM hcM hlR hf4 (by simp) (fun x hx => by simp at hx))
        have HTV := Lib.hid (fun x (hx : x.2.size ≤ maxLen) D cd W k0 k1 k2 k3 k4 k5 => xtrans_any rchk_any rapp_any X cM M Y cR R st v A ca a st' v' A' cb b m D cd [x] W k0 k1 k2 k3 k4 k5 (by omega) (by omega) hlM hcM hlR hf4 (by simp) (fun y hy => by rw [List.mem_singleton] at hy; rw [hy]; exact hx))
        have HSZ : Hid (∀ k, k < l.length → (itemAt l k).2.size ≤ maxLen) := fun k hk => hs _ (by rw [itemAt_get hk]; exact List.getElem_mem hk)
        have HPV : Hid (∀ k, k < l.length → appB M m = true → (xltT st v a st' v' b M R m [itemAt l k]).2.2 = xerr b R [itemAt l k]) := fun k hk ha => xerr_told h1 (by rw [h1m _ (by rw [itemAt_get hk]; exact List.getElem_mem hk)]) ha
        have HPX : Hid (appB M m = true → (xltT st v a st' v' b M R m l).2.2 = xerr b R l) := fun ha => xerr_told h1 h2 ha
        have HP0 : Hid (XInv b R l (appB M m) (xltT st v a st' v' b M R m l).2.2 (xltT st v a st' v' b M R m []).2.2 0) := by
          show _ ∨ _
          cases ha : appB M m
          · rw [xt_mti h1 h2 ha, xt_mti h1 (by rw [h0m]) ha]; exact Or.inl ⟨by decide, rfl⟩
          · rw [xerr_told h1 (by rw [h0m]) ha]; exact Or.inr ⟨rfl, rfl, rfl⟩
        generalize xltT st v a st' v' b M R m l = T at *
        obtain ⟨t1, TL, e1, e2⟩ := T
        generalize xltT st v a st' v' b M R m [] = T0 at *
        obtain ⟨t0, TL0, y1, y2⟩ := T0
        dsimp only at HTX HT0 HPX HP0
        generalize appB M m = ap at *
        clear hr h1 h2 h2z h0m h1m hK hM hR hA hB hI hlM hfM hcM hlR hf3 hma hmb hs hm hg1 hg2 hg3 hgz hf4 hgm
        generalize M.length = n at *
        generalize R.length = nr at *
        generalize a.length = la at *
        generalize b.length = lb at *
        generalize hln : l.length = lx at *
        have HLN := Lib.hid hln
        clear hln
        go_enter Tryz.func5, Tryz.ntmps5
        go_wp2_with fail
        generalize ((w.alloc (.cells #[.slice X n cM, .slice Y nr cR] 25)).alloc (.cells #[.int .i64 st, .int .i64 v, .slice A la ca, .int .i64 st', .int .i64 v', .slice A' lb cb] 29)).alloc (.cells #[.string m, .slice B lx cx] 41) = U at *
        refine (HAW.out _ (HK.out.below HQ0.out.1.1)).mono ?_
        rintro e w1 ⟨rfl, hb1⟩
        have HQ1 := Lib.hid (HQ0.out.below hb1)
        clear hb1 HQ0
        obtain ⟨⟨m0, m1⟩, a0, a1, a2, b0, b1, b2⟩ := HQ1.out.1.cells
        go_wp2_with fail
        clear m0 m1 a0 a1 a2 b0 b1 b2
        refine (HG.out _ (HM.out.below HQ1.out.1.1) (HR.out.below HQ1.out.1.1)).mono ?_
        rintro e w2 ⟨rfl, hb2⟩
        have HQ2 := Lib.hid (HQ1.out.below hb2)
        clear hb2 HQ1
        obtain ⟨x0, x1, _, _⟩ := obj_cells HQ2.out.2
        go_wp2_with fail
        clear x0 x1
        refine (HGM.out _ (HI.out.below HQ2.out.1.1)).mono ?_
        rintro e w3 ⟨rfl, hb3⟩
        have HQ3 := Lib.hid (HQ2.out.below hb3)
        clear hb3 HQ2
        obtain ⟨⟨m0, m1⟩, a0, a1, a2, b0, b1, b2⟩ := HQ3.out.1.cells
        go_wp2_with fail
        clear m0 m1 a0 a1 a2 b0 b1 b2
        refine (HRT.out _ (HM.out.below HQ3.out.1.1) (HR.out.below HQ3.out.1.1) (HA.out.below HQ3.out.1.1) (HB.out.below HQ3.out.1.1)).mono ?_
        rintro e w4 ⟨rfl, hb4⟩
        have HQ4 := Lib.hid (HQ3.out.below hb4)
        clear hb4 HQ3
        obtain ⟨_, a0, a1, a2, b0, b1, b2⟩ := HQ4.out.1.cells
        obtain ⟨x0, x1, _, _⟩ := obj_cells HQ4.out.2
        go_wp2_with fail
        clear a0 a1 a2 b0 b1 b2 x0 x1
        refine (HMC.out _ (HA.out.below HQ4.out.1.1) (HI.out.below HQ4.out.1.1)).mono ?_
        rintro e w5 ⟨rfl, hb5⟩
        have HQ5 := Lib.hid (HQ4.out.below hb5)
        clear hb5 HQ4
        obtain ⟨⟨m0, m1⟩, a0, a1, a2, b0, b1, b2⟩ := HQ5.out.1.cells
        obtain ⟨x0, x1, _, _⟩ := obj_cells HQ5.out.2
        go_wp2_with fail
        clear m0 m1 a0 a1 a2 b0 b1 b2 x0 x1
        refine (HT0.out _ (HK.out.below HQ5.out.1.1) (HM.out.below HQ5.out.1.1) (HR.out.below HQ5.out.1.1) (HA.out.below HQ5.out.1.1) (HB.out.below HQ5.out.1.1)).mono ?_
        rintro e w6 ⟨D, cd, rfl, _, hb6⟩
        dsimp only
        have hbm := below_al w6 (.cells #[.string t0, .slice D TL0.length cd] 41)
        have hbf := below_al (w6.alloc (.cells #[.string t0, .slice D TL0.length cd] 41)) (.cells #[.int .i64 y1, .int .i64 y2] 44)
        have HQ6 := Lib.hid (HQ5.out.below (hbt hb6 (hbt hbm hbf)))
        have HF6 : Hid (((w6.alloc (.cells #[.string t0, .slice D TL0.length cd] 41)).alloc (.cells #[.int .i64 y1, .int .i64 y2] 44)).heap[w6.heap.size + 1]? = some (.cells #[.int .i64 y1, .int .i64 y2] 44)) := heap_al _ _ _ (by simp)
        have HGZ : Hid (w.heap.size + 3 ≤ w6.heap.size + 1) := by have := obj_lt (HQ5.out.2.below hb6); show _ ≤ _; omega
        clear hb6 hbm hbf HQ5 HT0 HRT HMC HG HGM HAW
        generalize TL0.length = tn0 at *
        obtain ⟨x0, x1, _, _⟩ := obj_cells HQ6.out.2
        go_upto_region 4 with fail
        generalize (w6.alloc (.cells #[.string t0, .slice D tn0 cd] 41)).alloc (.cells #[.int .i64 y1, .int .i64 y2] 44) = W6 at *
        generalize w6.heap.size = g6 at *
        go_wp2_with fail
        clear x0 x1
        go_loopw [57] (fun i wr => ∃ (q : Nat) (y1 y2 : Int), q ≤ lx ∧ i = .int .i64 (q : Int) ∧ LM w X n cM Y nr cR st v A la ca st' v' A' lb cb m B lx cx wr ∧ wr.heap[g6 + 1]? = some (.cells #[.int .i64 y1, .int .i64 y2] 44) ∧ XInv b R l ap (e1, e2) (y1, y2) q) (fun i _ => lx - (intOf i).toNat)
        case atStart => exact ⟨0, y1, y2, Nat.zero_le _, rfl, HQ6.out, HF6.out, HP0.out⟩
        case round =>
          obtain ⟨q, w1', w2', hq, rfl, hQ, hF, hV⟩ := hrel
          have HQ7 := Lib.hid hQ
          have HF7 := Lib.hid hF
          have HV7 := Lib.hid hV
          clear hQ hF hV HQ6 HF6 HP0
          obtain ⟨f0, f1, _, _⟩ := obj_cells HF7.out
          by_cases hlt : q < lx
          · have hql : q < l.length := by have := HLN.out; omega
            obtain ⟨aB, no, s, rfl, hx, z0, z1⟩ := (HI.out.below HQ7.out.1.1).at_ hql
            have HSS := Lib.hid (HSZ.out q hlt)
            have HPQ := Lib.hid (HPV.out q hlt)
            have HEB := Lib.hid (err_bad (b := b) (R := R) hql)
            have HEO := Lib.hid (err_ok (b := b) (R := R) hql)
            rw [hx] at HSS HPQ HEB HEO
            have HTQ := Lib.hid (HTV.out (no, s) HSS.out)
            have HQ8 := Lib.hid (HQ7.out.below (below_al wr (.cells #[.int .i64 no, .string s] 53)))
            have HF8 := Lib.hid (obj_below HF7.out (below_al wr (.cells #[.int .i64 no, .string s] 53)))
            have HN8 : Hid ((wr.alloc (.cells #[.int .i64 no, .string s] 53)).heap[wr.heap.size]? = some (.cells #[.int .i64 no, .string s] 53)) := heap_alloc_new _ _
            clear hx hql HSS f0 f1
            obtain ⟨f0, f1, _, _⟩ := obj_cells HF8.out
            obtain ⟨⟨m0, m1⟩, a0, a1, a2, b0, b1, b2⟩ := HQ8.out.1.cells
            obtain ⟨x0, x1, _, _⟩ := obj_cells HQ8.out.2
            obtain ⟨v0, v1, _, _⟩ := obj_cells HN8.out
            rcases HV7.out with ⟨hw, he⟩ | ⟨hw, ha, he⟩
            · simp only [Prod.mk.injEq] at he
              obtain ⟨rfl, rfl⟩ := he
              have tw : (w1' != 0) = true := by simpa using hw
              clear hw HTQ
              go_wp2_with fail
              clear m0 m1 a0 a1 a2 b0 b1 b2 x0 x1 v0 v1 z0 z1 f0 f1
              generalize wr.alloc (.cells #[.int .i64 no, .string s] 53) = W8 at *
              generalize wr.heap.size = g8 at *
              refine (HTX.out _ (HK.out.below HQ8.out.1.1) (HM.out.below HQ8.out.1.1) (HR.out.below HQ8.out.1.1) (HA.out.below HQ8.out.1.1) (HB.out.below HQ8.out.1.1) (HI.out.below HQ8.out.1.1)).mono ?_
              rintro e w9 ⟨E, ce, rfl, _, hb9⟩
              dsimp only
              have hbm := below_al w9 (.cells #[.string t1, .slice E TL.length ce] 41)
              have hbf := below_al (w9.alloc (.cells #[.string t1, .slice E TL.length ce] 41)) (.cells #[.int .i64 w1', .int .i64 w2'] 44)
              have hb10 := hbt hb9 (hbt hbm hbf)
              have HB10 := Lib.hid (hbt HQ8.out.1.1 hb10)
              have HF10 := Lib.hid (obj_below HF8.out hb10)
              have HG10 : Hid (((w9.alloc (.cells #[.string t1, .slice E TL.length ce] 41)).alloc (.cells #[.int .i64 w1', .int .i64 w2'] 44)).heap[w9.heap.size + 1]? = some (.cells #[.int .i64 w1', .int .i64 w2'] 44)) := heap_al _ _ _ (by simp)
              clear hb9 hb10 hbm hbf
              generalize TL.length = tn at *
              go_upto_region 11 with fail
              generalize (w9.alloc (.cells #[.string t1, .slice E tn ce] 41)).alloc (.cells #[.int .i64 w1', .int .i64 w2'] 44) = W10 at *
              generalize w9.heap.size = g9 at *
              obtain ⟨f0, f1, _, _⟩ := obj_cells HF10.out
              obtain ⟨h0, h1, _, _⟩ := obj_cells HG10.out
              go_wp2
              go_ret
              exact ⟨by simp, HB10.out⟩
            · simp only [Prod.mk.injEq] at hw
              obtain ⟨rfl, rfl⟩ := hw
              have HXE := Lib.hid he
              have HAP := Lib.hid ha
              have HTE := Lib.hid (HPQ.out ha)
              generalize xltT st v a st' v' b M R m [(no, s)] = Tv at *
              obtain ⟨tv, TLv, u1, u2⟩ := Tv
              dsimp only at HTQ HTE
              have HNI : Hid (XInv b R l ap (e1, e2) (u1, u2) (q + 1)) := by
                show _ ∨ _
                have hpx := HPX.out HAP.out
                have hte := HTE.out
                by_cases hz : (xone b R (no, s)).2.2 = 0
                · rw [xerr_ok hz] at hte
                  exact Or.inr ⟨hte, HAP.out, HXE.out.trans (HEO.out hz)⟩
                · rw [xerr_bad hz] at hte
                  refine Or.inl ⟨?_, ?_⟩
                  · rw [hte]; exact hz
                  · rw [hte, hpx, HXE.out, HEB.out hz]
              have hbr := below_al (wr.alloc (.cells #[.int .i64 no, .string s] 53)) (.cells #[.int .i64 no, .string s] 53)
              have HQ9 := Lib.hid (HQ8.out.below hbr)
              have HF9 := Lib.hid (obj_below HF8.out hbr)
              have HR9 : Hid (Tlvs ((wr.alloc (.cells #[.int .i64 no, .string s] 53)).alloc (.cells #[.int .i64 no, .string s] 53)) (some ⟨wr.heap.size + 1, 0, none⟩) [(no, s)]) := vals_row (heap_al _ _ _ (by simp)) rfl
              clear hbr HTE HPQ HEB HEO ha he
              go_wp2_with fail
              clear m0 m1 a0 a1 a2 b0 b1 b2 x0 x1 v0 v1 z0 z1 f0 f1
              generalize (wr.alloc (.cells #[.int .i64 no, .string s] 53)).alloc (.cells #[.int .i64 no, .string s] 53) = W9 at *
              refine (HTQ.out (some ⟨wr.heap.size + 1, 0, none⟩) 1 _ (HK.out.below HQ9.out.1.1) (HM.out.below HQ9.out.1.1) (HR.out.below HQ9.out.1.1) (HA.out.below HQ9.out.1.1) (HB.out.below HQ9.out.1.1) HR9.out).mono ?_
              rintro e w10 ⟨E, ce, rfl, _, hb10⟩
              have HQ10 := Lib.hid (HQ9.out.below hb10)
              have HF10 := Lib.hid (obj_below HF9.out hb10)
              clear hb10 HQ9 HF9 HQ8 HF8 HQ7 HF7 HR9 HN8 HTQ
              obtain ⟨f0, f1, _, _⟩ := obj_cells HF10.out
              go_wp2
              go_roundw
              case rel => exact ⟨q + 1, u1, u2, by omega, by go_num, ⟨⟨below_set2 HQ10.out.1.1 (by have := HGZ.out; omega) _ _, obj_set_other HQ10.out.1.2.1 (by have := HGZ.out; omega) _ _, obj_set_other HQ10.out.1.2.2 (by have := HGZ.out; omega) _ _⟩, obj_set_other HQ10.out.2 (by have := HGZ.out; omega) _ _⟩, obj_set2 HF10.out _ _, HNI.out⟩
              case measure => simp [intOf]; omega
          · have HEE : Hid ((w1', w2') = (e1, e2)) := by
              show _ = _
              rcases HV7.out with ⟨_, he⟩ | ⟨hw, ha, he⟩
              · exact he
              · rw [hw, HPX.out ha, he, err_end (by have := HLN.out; omega)]
            have he := HEE.out
            simp only [Prod.mk.injEq] at he
            obtain ⟨rfl, rfl⟩ := he
            obtain ⟨⟨m0, m1⟩, a0, a1, a2, b0, b1, b2⟩ := HQ7.out.1.cells
            obtain ⟨x0, x1, _, _⟩ := obj_cells HQ7.out.2
            clear f0 f1 HEE HV7
            go_wp2_with fail
            clear m0 m1 a0 a1 a2 b0 b1 b2 x0 x1
            refine (HTX.out _ (HK.out.below HQ7.out.1.1) (HM.out.below HQ7.out.1.1) (HR.out.below HQ7.out.1.1) (HA.out.below HQ7.out.1.1) (HB.out.below HQ7.out.1.1) (HI.out.below HQ7.out.1.1)).mono ?_
            rintro e w9 ⟨E, ce, rfl, _, hb9⟩
            dsimp only
            have hbm := below_al w9 (.cells #[.string t1, .slice E TL.length ce] 41)
            have hbf := below_al (w9.alloc (.cells #[.string t1, .slice E TL.length ce] 41)) (.cells #[.int .i64 w1', .int .i64 w2'] 44)
            have hb10 := hbt hb9 (hbt hbm hbf)
            have HB10 := Lib.hid (hbt HQ7.out.1.1 hb10)
            have HF10 := Lib.hid (obj_below HF7.out hb10)
            have HG10 : Hid (((w9.alloc (.cells #[.string t1, .slice E TL.length ce] 41)).alloc (.cells #[.int .i64 w1', .int .i64 w2'] 44)).heap[w9.heap.size + 1]? = some (.cells #[.int .i64 w1', .int .i64 w2'] 44)) := heap_al _ _ _ (by simp)
            clear hb9 hb10 hbm hbf
            generalize TL.length = tn at *
            go_upto_region 11 with fail
            generalize (w9.alloc (.cells #[.string t1, .slice E tn ce] 41)).alloc (.cells #[.int .i64 w1', .int .i64 w2'] 44) = W10 at *
            generalize w9.heap.size = g9 at *
            obtain ⟨f0, f1, _, _⟩ := obj_cells HF10.out
            obtain ⟨h0, h1, _, _⟩ := obj_cells HG10.out
            go_wp2
            go_ret
            exact ⟨by simp, HB10.out⟩
      · have tk : ((msgN st v a m l).1 == 0) = false := by simpa using h2
        generalize (msgN st v a m l).1 = f1 at *
        generalize (msgN st v a m l).2 = f2 at *
        clear hr h1 h2 hK hM hR hA hB hI hlM hfM hcM hlR hf3 hma hmb hs hm hg1 hg2 hg3 hgz hf4 hgm hl2
        generalize M.length = n at *
        generalize R.length = nr at *
        generalize a.length = la at *
        generalize b.length = lb at *
        generalize l.length = lx at *
        go_enter Tryz.func5, Tryz.ntmps5
        go_wp2_with fail
        generalize ((w.alloc (.cells #[.slice X n cM, .slice Y nr cR] 25)).alloc (.cells #[.int .i64 st, .int .i64 v, .slice A la ca, .int .i64 st', .int .i64 v', .slice A' lb cb] 29)).alloc (.cells #[.string m, .slice B lx cx] 41) = U at *
        refine (HAW.out _ (HK.out.below HQ0.out.1.1)).mono ?_
        rintro e w1 ⟨rfl, hb1⟩
        have HQ1 := Lib.hid (HQ0.out.below hb1)
        clear hb1 HQ0
        obtain ⟨⟨m0, m1⟩, a0, a1, a2, b0, b1, b2⟩ := HQ1.out.1.cells
        go_wp2_with fail
        clear m0 m1 a0 a1 a2 b0 b1 b2
        refine (HG.out _ (HM.out.below HQ1.out.1.1) (HR.out.below HQ1.out.1.1)).mono ?_
        rintro e w2 ⟨rfl, hb2⟩
        have HQ2 := Lib.hid (HQ1.out.below hb2)
        clear hb2 HQ1
        obtain ⟨x0, x1, _, _⟩ := obj_cells HQ2.out.2
        go_wp2_with fail
        clear x0 x1
        refine (HGM.out _ (HI.out.below HQ2.out.1.1)).mono ?_
        rintro e w3 ⟨rfl, hb3⟩
        have HQ3 := Lib.hid (HQ2.out.below hb3)
        clear hb3 HQ2
        obtain ⟨⟨m0, m1⟩, a0, a1, a2, b0, b1, b2⟩ := HQ3.out.1.cells
        go_wp2_with fail
        clear m0 m1 a0 a1 a2 b0 b1 b2
        refine (HRT.out _ (HM.out.below HQ3.out.1.1) (HR.out.below HQ3.out.1.1) (HA.out.below HQ3.out.1.1) (HB.out.below HQ3.out.1.1)).mono ?_
        rintro e w4 ⟨rfl, hb4⟩
        have HQ4 := Lib.hid (HQ3.out.below hb4)
        clear hb4 HQ3
        obtain ⟨_, a0, a1, a2, b0, b1, b2⟩ := HQ4.out.1.cells
        obtain ⟨x0, x1, _, _⟩ := obj_cells HQ4.out.2
        go_wp2_with fail
        clear a0 a1 a2 b0 b1 b2 x0 x1
        refine (HMC.out _ (HA.out.below HQ4.out.1.1) (HI.out.below HQ4.out.1.1)).mono ?_
        rintro e w5 ⟨rfl, hb5⟩
        have HQ5 := Lib.hid (HQ4.out.below hb5)
        clear hb5 HQ4
        go_wp2_with fail
        refine (HAW.out _ (HK.out.below HQ5.out.1.1)).mono ?_
        rintro e w8 ⟨rfl, hb8⟩
        have HQ8 := Lib.hid (HQ5.out.below hb8)
        clear hb8
        go_wp2
        go_ret
        exact ⟨rfl, HQ8.out.1.1⟩
    · rw [hgm] at HGM
      clear hK hM hR hA hB hI hlM hfM hcM hlR hf3 hma hmb hs hm hg1 hg2 hg3 hgz hf4 hgm
      generalize M.length = n at *
      generalize R.length = nr at *
      generalize a.length = la at *
      generalize b.length = lb at *
      generalize l.length = lx at *
      go_enter Tryz.func5, Tryz.ntmps5
      go_wp2_with fail
      generalize ((w.alloc (.cells #[.slice X n cM, .slice Y nr cR] 25)).alloc (.cells #[.int .i64 st, .int .i64 v, .slice A la ca, .int .i64 st', .int .i64 v', .slice A' lb cb] 29)).alloc (.cells #[.string m, .slice B lx cx] 41) = U at *
      refine (HAW.out _ (HK.out.below HQ0.out.1.1)).mono ?_
      rintro e w1 ⟨rfl, hb1⟩
      have HQ1 := Lib.hid (HQ0.out.below hb1)
      clear hb1 HQ0
      obtain ⟨⟨m0, m1⟩, a0, a1, a2, b0, b1, b2⟩ := HQ1.out.1.cells
      go_wp2_with fail
      clear m0 m1 a0 a1 a2 b0 b1 b2
      refine (HG.out _ (HM.out.below HQ1.out.1.1) (HR.out.below HQ1.out.1.1)).mono ?_
      rintro e w2 ⟨rfl, hb2⟩
      have HQ2 := Lib.hid (HQ1.out.below hb2)
      clear hb2 HQ1
      obtain ⟨x0, x1, _, _⟩ := obj_cells HQ2.out.2
      go_wp2_with fail
      clear x0 x1
      refine (HGM.out _ (HI.out.below HQ2.out.1.1)).mono ?_
      rintro e w3 ⟨rfl, hb3⟩
      have HQ3 := Lib.hid (HQ2.out.below hb3)
      clear hb3 HQ2
      go_wp2_with fail
      refine (HAW.out _ (HK.out.below HQ3.out.1.1)).mono ?_
      rintro e w4 ⟨rfl, hb4⟩
      have HQ4 := Lib.hid (HQ3.out.below hb4)
      clear hb4
      go_wp2
      go_ret
      exact ⟨rfl, HQ4.out.1.1⟩
  · rw [hg] at HG
    clear hK hM hR hA hB hI hlM hfM hcM hlR hf3 hma hmb hs hm hg
    generalize M.length = n at *
    generalize R.length = nr at *
    generalize a.length = la at *
    generalize b.length = lb at *
    generalize l.length = lx at *
    go_enter Tryz.func5, Tryz.ntmps5
    go_wp2_with fail
    generalize ((w.alloc (.cells #[.slice X n cM, .slice Y nr cR] 25)).alloc (.cells #[.int .i64 st, .int .i64 v, .slice A la ca, .int .i64 st', .int .i64 v', .slice A' lb cb] 29)).alloc (.cells #[.string m, .slice B lx cx] 41) = U at *
    refine (HAW.out _ (HK.out.below HQ0.out.1.1)).mono ?_
    rintro e w1 ⟨rfl, hb1⟩
    have HQ1 := Lib.hid (HQ0.out.below hb1)
    clear hb1 HQ0
    obtain ⟨⟨m0, m1⟩, a0, a1, a2, b0, b1, b2⟩ := HQ1.out.1.cells
    go_wp2_with fail
    clear m0 m1 a0 a1 a2 b0 b1 b2
    refine (HG.out _ (HM.out.below HQ1.out.1.1) (HR.out.below HQ1.out.1.1)).mono ?_
    rintro e w2 ⟨rfl, hb2⟩
    have HQ2 := Lib.hid (HQ1.out.below hb2)
    clear hb2 HQ1
    go_wp2_with fail
    refine (HAW.out _ (HK.out.below HQ2.out.1.1)).mono ?_
    rintro e w4 ⟨rfl, hb4⟩
    have HQ4 := Lib.hid (HQ2.out.below hb4)
    clear hb4
    go_wp2
    go_ret
    exact ⟨rfl, HQ4.out.1.1⟩

end Go.Proofs.YthheflgfbdcnlaaGreatDoor
