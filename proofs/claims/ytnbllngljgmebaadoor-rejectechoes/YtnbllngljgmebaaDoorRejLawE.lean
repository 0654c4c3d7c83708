/-
  The law RejectEchoes: for every side, message and fault that the machine can hold, in every world where the table of kinds reads as it is laid.
-/
import Derived.Test.YtnbllngljgmebaaDoorRejLq
import Derived.Test.YtnbllngljgmebaaDoorPackMsg
import Derived.Test.YtnbllngljgmebaaDoorPackFld
namespace Go.Proofs.YtnbllngljgmebaaDoor
open Go.RowKit

set_option maxRecDepth 100000 in
set_option maxHeartbeats 25600000 in
theorem rjechoes_row (st v : Int) (A : Option Addr) (cA : Nat) (sl : List Sp) (X : Option Addr) (nM cM : Nat) (Y : Option Addr) (nR cR : Nat) (B : Option Addr) (cB : Nat) (E : List Int) (D : Option Addr) (cD : Nat) (C : List Item) (m : ByteArray) (F : Option Addr) (cF : Nat) (l : List Item) (er fd : Int) (w : World) (hK : Kinds w) (hA : Spl w A sl) (hl : sl.length ≤ maxLen) (hE : Ints w B E) (hle : E.length ≤ maxLen) (hcb : E.length ≤ cB) (hwe : ∀ z ∈ E, (Lit.int .i64 z).wf = true) (hC : Tlvs w D C) (hlc : C.length ≤ maxLen) (hcd : C.length ≤ cD) (hs : ∀ x ∈ C, x.2.size ≤ maxLen) (hze : E.length ≤ 20000000000000) (hm : m.size ≤ maxLen) (hF : Tlvs w F l) (hlf : l.length ≤ maxLen) (hft : ∀ x ∈ l, x.2.size ≤ maxLen) (hzl : l.length ≤ 5864062014700) (hwl : ∀ x ∈ l, (Lit.int .i64 x.1).wf = true) :
    Calls Tryd.prog 7 #[.agg #[.int .i64 st, .int .i64 v, .slice A sl.length cA, .slice X nM cM, .slice Y nR cR, .slice B E.length cB, .slice D C.length cD], .agg #[.string m, .slice F l.length cF], .agg #[.int .i64 er, .int .i64 fd]] w fun e w' => e = .returned (.bool true) ∧ Below w.heap.size w w' := by
  have _ := hl; have _ := hle; have _ := hcd; have _ := hlf; have _ := hm
  have HAW := Lib.hid (fun W h => rjawake_any W h)
  have HG := Lib.hid (fun W h => rjgreat_any st v A cA sl X nM cM Y nR cR B cB E D cD C W h hs)
  have HGM := Lib.hid (fun W h => mgreat_any m F cF l W h hft)
  have HBU := Lib.hid (fun W h1 h2 h3 => rjbuild_some st v A sl.length cA X nM cM Y nR cR B cB E D cD C m F cF l er fd W h1 h2 h3 hze hlc hzl hwe hwl)
  have HQ0 : Hid (LB w st v A sl.length cA X nM cM Y nR cR B E.length cB D C.length cD m F l.length cF er fd (((w.alloc (.cells #[.int .i64 st, .int .i64 v, .slice A sl.length cA, .slice X nM cM, .slice Y nR cR, .slice B E.length cB, .slice D C.length cD] 32)).alloc (.cells #[.string m, .slice F l.length cF] 45)).alloc (.cells #[.int .i64 er, .int .i64 fd] 47))) := lb_new
  have HK := Lib.hid hK
  have HA := Lib.hid hA
  have HE := Lib.hid hE
  have HC := Lib.hid hC
  have HF := Lib.hid hF
  cases hg : rjgB sl E C
  · obtain ⟨hg1, hg2, hg3, _⟩ := rjg_in hg
    rw [hg] at HG
    cases hgm : greatM m l
    · obtain ⟨hh1, hh2, _⟩ := great_in hgm
      rw [hgm] at HGM
      have HR := Lib.hid (fun W h1 h2 h3 => rjright_any st v A cA sl X nM cM Y nR cR B cB E D cD C W h1 h2 h3 (by omega) (by omega) hg3 hcb hs)
      by_cases hr : (rejN st v sl E C).1 = 0
      · rw [decide_eq_true hr] at HR
        cases hask : askB m.data.toList
        · rw [hask] at HBU
          clear hK hA hE hC hl hle hcb hwe hlc hcd hs hze hm hF hlf hft hzl hwl hg hg1 hg2 hg3 hgm hh1 hh2 hr hask
          generalize rbL E C er m l = TL at *
          generalize rbM m = t1 at *
          generalize TL.length = tn at *
          generalize sl.length = la at *
          generalize E.length = ne at *
          generalize C.length = nc at *
          generalize l.length = nl at *
          go_enter Tryd.func7, Tryd.ntmps7
          go_upto_region 1 with fail
          generalize (((w.alloc (.cells #[.int .i64 st, .int .i64 v, .slice A la cA, .slice X nM cM, .slice Y nR cR, .slice B ne cB, .slice D nc cD] 32)).alloc (.cells #[.string m, .slice F nl cF] 45)).alloc (.cells #[.int .i64 er, .int .i64 fd] 47)) = U at *
          obtain ⟨c0, c1, c2, c3, c4, c5, c6⟩ := HQ0.out.2.1.cells
          obtain ⟨m0, m1, _, _⟩ := obj_cells HQ0.out.2.2.1
          obtain ⟨f0, f1, _, _⟩ := obj_cells HQ0.out.2.2.2
          go_wp2_with fail
          clear c0 c1 c2 c3 c4 c5 c6 m0 m1 f0 f1
          refine (HBU.out _ (HE.out.below HQ0.out.1) (HC.out.below HQ0.out.1) (HF.out.below HQ0.out.1)).mono ?_
          rintro e w1 ⟨_, rfl, P, k, rfl, ht1, hb1⟩
          have hbm := below_al w1 (.cells #[.string t1, .slice P tn k] 45)
          have HQ1 := Lib.hid (HQ0.out.below (hbt hb1 hbm))
          have HT1 := Lib.hid (ht1.below hbm)
          have HX1 : Hid (MBox (w1.alloc (.cells #[.string t1, .slice P tn k] 45)) w1.heap.size t1 P tn k) := mbox_new _ _ _ _ _
          clear hb1 hbm ht1 HQ0 HBU
          go_upto_region 2 with fail
          generalize w1.alloc (.cells #[.string t1, .slice P tn k] 45) = W1 at *
          generalize w1.heap.size = g1 at *
          go_wp2_with fail
          refine (HAW.out _ (HK.out.below HQ1.out.1)).mono ?_
          rintro e w2 ⟨rfl, hb2⟩
          have HQ2 := Lib.hid (HQ1.out.below hb2)
          have HT2 := Lib.hid (HT1.out.below hb2)
          have HX2 := Lib.hid (HX1.out.below hb2)
          clear hb2 HQ1 HT1 HX1
          obtain ⟨c0, c1, c2, c3, c4, c5, c6⟩ := HQ2.out.2.1.cells
          go_wp2_with fail
          clear c0 c1 c2 c3 c4 c5 c6
          refine (HG.out _ (HC.out.below HQ2.out.1)).mono ?_
          rintro e w3 ⟨rfl, hb3⟩
          have HQ3 := Lib.hid (HQ2.out.below hb3)
          have HT3 := Lib.hid (HT2.out.below hb3)
          have HX3 := Lib.hid (HX2.out.below hb3)
          clear hb3 HQ2 HT2 HX2 HG
          obtain ⟨m0, m1, _, _⟩ := obj_cells HQ3.out.2.2.1
          go_wp2_with fail
          clear m0 m1
          refine (HGM.out _ (HF.out.below HQ3.out.1)).mono ?_
          rintro e w4 ⟨rfl, hb4⟩
          have HQ4 := Lib.hid (HQ3.out.below hb4)
          have HT4 := Lib.hid (HT3.out.below hb4)
          have HX4 := Lib.hid (HX3.out.below hb4)
          clear hb4 HQ3 HT3 HX3 HGM
          obtain ⟨c0, c1, c2, c3, c4, c5, c6⟩ := HQ4.out.2.1.cells
          go_wp2_with fail
          clear c0 c1 c2 c3 c4 c5 c6
          refine (HR.out _ (HA.out.below HQ4.out.1) (HE.out.below HQ4.out.1) (HC.out.below HQ4.out.1)).mono ?_
          rintro e w5 ⟨rfl, hb5⟩
          have HQ5 := Lib.hid (HQ4.out.below hb5)
          have HT5 := Lib.hid (HT4.out.below hb5)
          have HX5 := Lib.hid (HX4.out.below hb5)
          clear hb5 HQ4 HT4 HX4 HR
          go_wp2_with fail
          refine (HAW.out _ (HK.out.below HQ5.out.1)).mono ?_
          rintro e w9 ⟨rfl, hb9⟩
          go_wp2
          go_ret
          exact ⟨rfl, hbt HQ5.out.1 hb9⟩
        · rw [hask, show rbL E C er m l = ansL E C er l by unfold rbL; rw [if_pos hask]] at HBU
          have hal := ans_len E C er l
          have HAF := Lib.hid (fun z => ans_find hr l er z)
          have HG1 := Lib.hid (fun P k z W h => mget_any (rbM m) P k (ansL E C er l) z W h (by omega))
          have HG2 := Lib.hid (fun z W h => mget_any m F cF l z W h (by omega))
          have HCD := Lib.hid (fun W h => code_any st v A sl.length cA X nM cM Y nR cR B E.length cB D cD C er W h hlc)
          have HIN := Lib.hid (fun z W h => refIn_any B cB E z W h (by omega))
          clear hK hA hE hC hl hle hcb hwe hlc hcd hs hze hm hF hlf hft hzl hwl hg hg1 hg2 hg3 hgm hh1 hh2 hr hask hal
          generalize ansL E C er l = TL at *
          generalize rbM m = t1 at *
          generalize codeS C er = cs at *
          generalize TL.length = tn at *
          generalize sl.length = la at *
          generalize E.length = ne at *
          generalize C.length = nc at *
          generalize l.length = nl at *
          go_enter Tryd.func7, Tryd.ntmps7
          go_upto_region 1 with fail
          generalize (((w.alloc (.cells #[.int .i64 st, .int .i64 v, .slice A la cA, .slice X nM cM, .slice Y nR cR, .slice B ne cB, .slice D nc cD] 32)).alloc (.cells #[.string m, .slice F nl cF] 45)).alloc (.cells #[.int .i64 er, .int .i64 fd] 47)) = U at *
          obtain ⟨c0, c1, c2, c3, c4, c5, c6⟩ := HQ0.out.2.1.cells
          obtain ⟨m0, m1, _, _⟩ := obj_cells HQ0.out.2.2.1
          obtain ⟨f0, f1, _, _⟩ := obj_cells HQ0.out.2.2.2
          go_wp2_with fail
          clear c0 c1 c2 c3 c4 c5 c6 m0 m1 f0 f1
          refine (HBU.out _ (HE.out.below HQ0.out.1) (HC.out.below HQ0.out.1) (HF.out.below HQ0.out.1)).mono ?_
          rintro e w1 ⟨_, rfl, P, k, rfl, ht1, hb1⟩
          have hbm := below_al w1 (.cells #[.string t1, .slice P tn k] 45)
          have HQ1 := Lib.hid (HQ0.out.below (hbt hb1 hbm))
          have HT1 := Lib.hid (ht1.below hbm)
          have HX1 : Hid (MBox (w1.alloc (.cells #[.string t1, .slice P tn k] 45)) w1.heap.size t1 P tn k) := mbox_new _ _ _ _ _
          clear hb1 hbm ht1 HQ0 HBU
          go_upto_region 2 with fail
          generalize w1.alloc (.cells #[.string t1, .slice P tn k] 45) = W1 at *
          generalize w1.heap.size = g1 at *
          go_wp2_with fail
          refine (HAW.out _ (HK.out.below HQ1.out.1)).mono ?_
          rintro e w2 ⟨rfl, hb2⟩
          have HQ2 := Lib.hid (HQ1.out.below hb2)
          have HT2 := Lib.hid (HT1.out.below hb2)
          have HX2 := Lib.hid (HX1.out.below hb2)
          clear hb2 HQ1 HT1 HX1
          obtain ⟨c0, c1, c2, c3, c4, c5, c6⟩ := HQ2.out.2.1.cells
          go_wp2_with fail
          clear c0 c1 c2 c3 c4 c5 c6
          refine (HG.out _ (HC.out.below HQ2.out.1)).mono ?_
          rintro e w3 ⟨rfl, hb3⟩
          have HQ3 := Lib.hid (HQ2.out.below hb3)
          have HT3 := Lib.hid (HT2.out.below hb3)
          have HX3 := Lib.hid (HX2.out.below hb3)
          clear hb3 HQ2 HT2 HX2 HG
          obtain ⟨m0, m1, _, _⟩ := obj_cells HQ3.out.2.2.1
          go_wp2_with fail
          clear m0 m1
          refine (HGM.out _ (HF.out.below HQ3.out.1)).mono ?_
          rintro e w4 ⟨rfl, hb4⟩
          have HQ4 := Lib.hid (HQ3.out.below hb4)
          have HT4 := Lib.hid (HT3.out.below hb4)
          have HX4 := Lib.hid (HX3.out.below hb4)
          clear hb4 HQ3 HT3 HX3 HGM
          obtain ⟨c0, c1, c2, c3, c4, c5, c6⟩ := HQ4.out.2.1.cells
          go_wp2_with fail
          clear c0 c1 c2 c3 c4 c5 c6
          refine (HR.out _ (HA.out.below HQ4.out.1) (HE.out.below HQ4.out.1) (HC.out.below HQ4.out.1)).mono ?_
          rintro e w5 ⟨rfl, hb5⟩
          have HQ5 := Lib.hid (HQ4.out.below hb5)
          have HT5 := Lib.hid (HT4.out.below hb5)
          have HX5 := Lib.hid (HX4.out.below hb5)
          clear hb5 HQ4 HT4 HX4 HR
          go_wp2
          go_loopw [9] (fun i wr => ∃ z : Nat, 2 ≤ z ∧ z ≤ 129 ∧ i = .int .i64 (z : Int) ∧ Below w5.heap.size w5 wr) (fun i _ => 129 - (intOf i).toNat)
          case atStart => exact ⟨2, by omega, by omega, rfl, Below.refl _ _⟩
          case round =>
            obtain ⟨z, hz1, hz2, rfl, hb⟩ := hrel
            have HQ6 := Lib.hid (HQ5.out.below hb)
            have HX6 := Lib.hid (HX5.out.below hb)
            have HT6 := Lib.hid (HT5.out.below hb)
            have HB6 := Lib.hid hb
            clear hb
            by_cases hle : z ≤ 128
            · have tle : decide ((z : Int) ≤ 128) = true := by simp; omega
              obtain ⟨hf1, hf2⟩ := HAF.out z
              have HG1 := Lib.hid (fun W h => HG1.out P k z W h)
              have HG2 := Lib.hid (fun W h => HG2.out z W h)
              have HIN := Lib.hid (fun W h => HIN.out z W h)
              generalize findS TL (z : Int) = s1 at *
              generalize findB TL (z : Int) = b1 at *
              generalize findS l (z : Int) = s2 at *
              generalize findB l (z : Int) = b2 at *
              generalize decide ((z : Int) ∈ E) = b3 at *
              by_cases h39 : (z : Int) = 39
              · obtain ⟨rfl, rfl⟩ := hf1 h39
                have t39 : ((z : Int) == 39) = true := by simpa using h39
                clear hf1 hf2 h39
                obtain ⟨d0, d1, _, _⟩ := obj_cells HX6.out
                go_wp2_with fail
                clear d0 d1
                refine (HG1.out _ HT6.out).mono ?_
                rintro e w7 ⟨rfl, hb7⟩
                have HQ7 := Lib.hid (HQ6.out.below hb7)
                have HB7 := Lib.hid (hbt HB6.out hb7)
                clear hb7
                obtain ⟨m0, m1, _, _⟩ := obj_cells HQ7.out.2.2.1
                go_wp2_with fail
                clear m0 m1
                refine (HG2.out _ (HF.out.below HQ7.out.1)).mono ?_
                rintro e w8 ⟨rfl, hb8⟩
                have HQ8 := Lib.hid (HQ7.out.below hb8)
                have HB8 := Lib.hid (hbt HB7.out hb8)
                clear hb8
                obtain ⟨c0, c1, c2, c3, c4, c5, c6⟩ := HQ8.out.2.1.cells
                obtain ⟨f0, f1, _, _⟩ := obj_cells HQ8.out.2.2.2
                go_wp2_with fail
                clear c0 c1 c2 c3 c4 c5 c6 f0 f1
                refine (HCD.out _ (HC.out.below HQ8.out.1)).mono ?_
                rintro e w9 ⟨rfl, hb9⟩
                have HB9 := Lib.hid (hbt HB8.out hb9)
                clear hb9
                go_wp2
                go_roundw
                case rel => exact ⟨z + 1, by omega, by omega, by go_num, HB9.out⟩
                case measure => simp [intOf]; omega
              · obtain ⟨rfl, he⟩ := hf2 h39
                have t39 : ((z : Int) == 39) = false := by simpa using h39
                clear hf1 hf2 h39
                obtain ⟨d0, d1, _, _⟩ := obj_cells HX6.out
                go_wp2_with fail
                clear d0 d1
                refine (HG1.out _ HT6.out).mono ?_
                rintro e w7 ⟨rfl, hb7⟩
                have HQ7 := Lib.hid (HQ6.out.below hb7)
                have HB7 := Lib.hid (hbt HB6.out hb7)
                clear hb7
                obtain ⟨m0, m1, _, _⟩ := obj_cells HQ7.out.2.2.1
                go_wp2_with fail
                clear m0 m1
                refine (HG2.out _ (HF.out.below HQ7.out.1)).mono ?_
                rintro e w8 ⟨rfl, hb8⟩
                have HQ8 := Lib.hid (HQ7.out.below hb8)
                have HB8 := Lib.hid (hbt HB7.out hb8)
                clear hb8
                cases b2
                · clear he
                  go_wp2
                  go_roundw
                  case rel => exact ⟨z + 1, by omega, by omega, by go_num, HB8.out⟩
                  case measure => simp [intOf]; omega
                · obtain ⟨c0, c1, c2, c3, c4, c5, c6⟩ := HQ8.out.2.1.cells
                  go_wp2_with fail
                  clear c0 c1 c2 c3 c4 c5 c6
                  refine (HIN.out _ (HE.out.below HQ8.out.1)).mono ?_
                  rintro e w9 ⟨rfl, rfl⟩
                  cases b3
                  · clear he
                    go_wp2
                    go_roundw
                    case rel => exact ⟨z + 1, by omega, by omega, by go_num, HB8.out⟩
                    case measure => simp [intOf]; omega
                  · obtain rfl : s1 = s2 := he rfl
                    clear he
                    go_wp2
                    go_roundw
                    case rel => exact ⟨z + 1, by omega, by omega, by go_num, HB8.out⟩
                    case measure => simp [intOf]; omega
            · have tle : decide ((z : Int) ≤ 128) = false := by simp; omega
              go_wp2
              go_ret
              exact ⟨rfl, HQ6.out.1⟩
      · rw [decide_eq_false hr] at HR
        clear hK hA hE hC hl hle hcb hwe hlc hcd hs hze hm hF hlf hft hzl hwl hg hg1 hg2 hg3 hgm hh1 hh2 hr
        generalize rbL E C er m l = TL at *
        generalize rbM m = t1 at *
        generalize askB m.data.toList = b at *
        generalize TL.length = tn at *
        generalize sl.length = la at *
        generalize E.length = ne at *
        generalize C.length = nc at *
        generalize l.length = nl at *
        go_enter Tryd.func7, Tryd.ntmps7
        go_upto_region 1 with fail
        generalize (((w.alloc (.cells #[.int .i64 st, .int .i64 v, .slice A la cA, .slice X nM cM, .slice Y nR cR, .slice B ne cB, .slice D nc cD] 32)).alloc (.cells #[.string m, .slice F nl cF] 45)).alloc (.cells #[.int .i64 er, .int .i64 fd] 47)) = U at *
        obtain ⟨c0, c1, c2, c3, c4, c5, c6⟩ := HQ0.out.2.1.cells
        obtain ⟨m0, m1, _, _⟩ := obj_cells HQ0.out.2.2.1
        obtain ⟨f0, f1, _, _⟩ := obj_cells HQ0.out.2.2.2
        go_wp2_with fail
        clear c0 c1 c2 c3 c4 c5 c6 m0 m1 f0 f1
        refine (HBU.out _ (HE.out.below HQ0.out.1) (HC.out.below HQ0.out.1) (HF.out.below HQ0.out.1)).mono ?_
        rintro e w1 ⟨_, rfl, P, k, rfl, ht1, hb1⟩
        have hbm := below_al w1 (.cells #[.string t1, .slice P tn k] 45)
        have HQ1 := Lib.hid (HQ0.out.below (hbt hb1 hbm))
        have HT1 := Lib.hid (ht1.below hbm)
        have HX1 : Hid (MBox (w1.alloc (.cells #[.string t1, .slice P tn k] 45)) w1.heap.size t1 P tn k) := mbox_new _ _ _ _ _
        clear hb1 hbm ht1 HQ0 HBU
        go_upto_region 2 with fail
        generalize w1.alloc (.cells #[.string t1, .slice P tn k] 45) = W1 at *
        generalize w1.heap.size = g1 at *
        go_wp2_with fail
        refine (HAW.out _ (HK.out.below HQ1.out.1)).mono ?_
        rintro e w2 ⟨rfl, hb2⟩
        have HQ2 := Lib.hid (HQ1.out.below hb2)
        have HT2 := Lib.hid (HT1.out.below hb2)
        have HX2 := Lib.hid (HX1.out.below hb2)
        clear hb2 HQ1 HT1 HX1
        obtain ⟨c0, c1, c2, c3, c4, c5, c6⟩ := HQ2.out.2.1.cells
        go_wp2_with fail
        clear c0 c1 c2 c3 c4 c5 c6
        refine (HG.out _ (HC.out.below HQ2.out.1)).mono ?_
        rintro e w3 ⟨rfl, hb3⟩
        have HQ3 := Lib.hid (HQ2.out.below hb3)
        have HT3 := Lib.hid (HT2.out.below hb3)
        have HX3 := Lib.hid (HX2.out.below hb3)
        clear hb3 HQ2 HT2 HX2 HG
        obtain ⟨m0, m1, _, _⟩ := obj_cells HQ3.out.2.2.1
        go_wp2_with fail
        clear m0 m1
        refine (HGM.out _ (HF.out.below HQ3.out.1)).mono ?_
        rintro e w4 ⟨rfl, hb4⟩
        have HQ4 := Lib.hid (HQ3.out.below hb4)
        have HT4 := Lib.hid (HT3.out.below hb4)
        have HX4 := Lib.hid (HX3.out.below hb4)
        clear hb4 HQ3 HT3 HX3 HGM
        obtain ⟨c0, c1, c2, c3, c4, c5, c6⟩ := HQ4.out.2.1.cells
        go_wp2_with fail
        clear c0 c1 c2 c3 c4 c5 c6
        refine (HR.out _ (HA.out.below HQ4.out.1) (HE.out.below HQ4.out.1) (HC.out.below HQ4.out.1)).mono ?_
        rintro e w5 ⟨rfl, hb5⟩
        have HQ5 := Lib.hid (HQ4.out.below hb5)
        have HT5 := Lib.hid (HT4.out.below hb5)
        have HX5 := Lib.hid (HX4.out.below hb5)
        clear hb5 HQ4 HT4 HX4 HR
        go_wp2_with fail
        refine (HAW.out _ (HK.out.below HQ5.out.1)).mono ?_
        rintro e w9 ⟨rfl, hb9⟩
        go_wp2
        go_ret
        exact ⟨rfl, hbt HQ5.out.1 hb9⟩
    · rw [hgm] at HGM
      clear hK hA hE hC hl hle hcb hwe hlc hcd hs hze hm hF hlf hft hzl hwl hg hg1 hg2 hg3 hgm
      generalize rbL E C er m l = TL at *
      generalize rbM m = t1 at *
      generalize askB m.data.toList = b at *
      generalize TL.length = tn at *
      generalize sl.length = la at *
      generalize E.length = ne at *
      generalize C.length = nc at *
      generalize l.length = nl at *
      go_enter Tryd.func7, Tryd.ntmps7
      go_upto_region 1 with fail
      generalize (((w.alloc (.cells #[.int .i64 st, .int .i64 v, .slice A la cA, .slice X nM cM, .slice Y nR cR, .slice B ne cB, .slice D nc cD] 32)).alloc (.cells #[.string m, .slice F nl cF] 45)).alloc (.cells #[.int .i64 er, .int .i64 fd] 47)) = U at *
      obtain ⟨c0, c1, c2, c3, c4, c5, c6⟩ := HQ0.out.2.1.cells
      obtain ⟨m0, m1, _, _⟩ := obj_cells HQ0.out.2.2.1
      obtain ⟨f0, f1, _, _⟩ := obj_cells HQ0.out.2.2.2
      go_wp2_with fail
      clear c0 c1 c2 c3 c4 c5 c6 m0 m1 f0 f1
      refine (HBU.out _ (HE.out.below HQ0.out.1) (HC.out.below HQ0.out.1) (HF.out.below HQ0.out.1)).mono ?_
      rintro e w1 ⟨_, rfl, P, k, rfl, ht1, hb1⟩
      have hbm := below_al w1 (.cells #[.string t1, .slice P tn k] 45)
      have HQ1 := Lib.hid (HQ0.out.below (hbt hb1 hbm))
      have HT1 := Lib.hid (ht1.below hbm)
      have HX1 : Hid (MBox (w1.alloc (.cells #[.string t1, .slice P tn k] 45)) w1.heap.size t1 P tn k) := mbox_new _ _ _ _ _
      clear hb1 hbm ht1 HQ0 HBU
      go_upto_region 2 with fail
      generalize w1.alloc (.cells #[.string t1, .slice P tn k] 45) = W1 at *
      generalize w1.heap.size = g1 at *
      go_wp2_with fail
      refine (HAW.out _ (HK.out.below HQ1.out.1)).mono ?_
      rintro e w2 ⟨rfl, hb2⟩
      have HQ2 := Lib.hid (HQ1.out.below hb2)
      have HT2 := Lib.hid (HT1.out.below hb2)
      have HX2 := Lib.hid (HX1.out.below hb2)
      clear hb2 HQ1 HT1 HX1
      obtain ⟨c0, c1, c2, c3, c4, c5, c6⟩ := HQ2.out.2.1.cells
      go_wp2_with fail
      clear c0 c1 c2 c3 c4 c5 c6
      refine (HG.out _ (HC.out.below HQ2.out.1)).mono ?_
      rintro e w3 ⟨rfl, hb3⟩
      have HQ3 := Lib.hid (HQ2.out.below hb3)
      have HT3 := Lib.hid (HT2.out.below hb3)
      have HX3 := Lib.hid (HX2.out.below hb3)
      clear hb3 HQ2 HT2 HX2 HG
      obtain ⟨m0, m1, _, _⟩ := obj_cells HQ3.out.2.2.1
      go_wp2_with fail
      clear m0 m1
      refine (HGM.out _ (HF.out.below HQ3.out.1)).mono ?_
      rintro e w4 ⟨rfl, hb4⟩
      have HQ4 := Lib.hid (HQ3.out.below hb4)
      have HT4 := Lib.hid (HT3.out.below hb4)
      have HX4 := Lib.hid (HX3.out.below hb4)
      clear hb4 HQ3 HT3 HX3 HGM
      go_wp2_with fail
      refine (HAW.out _ (HK.out.below HQ4.out.1)).mono ?_
      rintro e w9 ⟨rfl, hb9⟩
      go_wp2
      go_ret
      exact ⟨rfl, hbt HQ4.out.1 hb9⟩
  · rw [hg] at HG
    clear hK hA hE hC hl hle hcb hwe hlc hcd hs hze hm hF hlf hft hzl hwl hg HGM
    generalize rbL E C er m l = TL at *
    generalize rbM m = t1 at *
    generalize askB m.data.toList = b at *
    generalize TL.length = tn at *
    generalize sl.length = la at *
    generalize E.length = ne at *
    generalize C.length = nc at *
    generalize l.length = nl at *
    go_enter Tryd.func7, Tryd.ntmps7
    go_upto_region 1 with fail
    generalize (((w.alloc (.cells #[.int .i64 st, .int .i64 v, .slice A la cA, .slice X nM cM, .slice Y nR cR, .slice B ne cB, .slice D nc cD] 32)).alloc (.cells #[.string m, .slice F nl cF] 45)).alloc (.cells #[.int .i64 er, .int .i64 fd] 47)) = U at *
    obtain ⟨c0, c1, c2, c3, c4, c5, c6⟩ := HQ0.out.2.1.cells
    obtain ⟨m0, m1, _, _⟩ := obj_cells HQ0.out.2.2.1
    obtain ⟨f0, f1, _, _⟩ := obj_cells HQ0.out.2.2.2
    go_wp2_with fail
    clear c0 c1 c2 c3 c4 c5 c6 m0 m1 f0 f1
    refine (HBU.out _ (HE.out.below HQ0.out.1) (HC.out.below HQ0.out.1) (HF.out.below HQ0.out.1)).mono ?_
    rintro e w1 ⟨_, rfl, P, k, rfl, ht1, hb1⟩
    have hbm := below_al w1 (.cells #[.string t1, .slice P tn k] 45)
    have HQ1 := Lib.hid (HQ0.out.below (hbt hb1 hbm))
    have HT1 := Lib.hid (ht1.below hbm)
    have HX1 : Hid (MBox (w1.alloc (.cells #[.string t1, .slice P tn k] 45)) w1.heap.size t1 P tn k) := mbox_new _ _ _ _ _
    clear hb1 hbm ht1 HQ0 HBU
    go_upto_region 2 with fail
    generalize w1.alloc (.cells #[.string t1, .slice P tn k] 45) = W1 at *
    generalize w1.heap.size = g1 at *
    go_wp2_with fail
    refine (HAW.out _ (HK.out.below HQ1.out.1)).mono ?_
    rintro e w2 ⟨rfl, hb2⟩
    have HQ2 := Lib.hid (HQ1.out.below hb2)
    have HT2 := Lib.hid (HT1.out.below hb2)
    have HX2 := Lib.hid (HX1.out.below hb2)
    clear hb2 HQ1 HT1 HX1
    obtain ⟨c0, c1, c2, c3, c4, c5, c6⟩ := HQ2.out.2.1.cells
    go_wp2_with fail
    clear c0 c1 c2 c3 c4 c5 c6
    refine (HG.out _ (HC.out.below HQ2.out.1)).mono ?_
    rintro e w3 ⟨rfl, hb3⟩
    have HQ3 := Lib.hid (HQ2.out.below hb3)
    have HT3 := Lib.hid (HT2.out.below hb3)
    have HX3 := Lib.hid (HX2.out.below hb3)
    clear hb3 HQ2 HT2 HX2 HG
    go_wp2_with fail
    refine (HAW.out _ (HK.out.below HQ3.out.1)).mono ?_
    rintro e w9 ⟨rfl, hb9⟩
    go_wp2
    go_ret
    exact ⟨rfl, hbt HQ3.out.1 hb9⟩

end Go.Proofs.YtnbllngljgmebaaDoor
