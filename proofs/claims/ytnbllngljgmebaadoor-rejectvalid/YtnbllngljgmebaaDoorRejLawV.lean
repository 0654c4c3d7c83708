/-
  The law RejectValid: for every side, message and fault, in every world where the table of kinds reads as it is laid.
-/
import Derived.Test.YtnbllngljgmebaaDoorRejLq
import Derived.Test.YtnbllngljgmebaaDoorPackMsg
import Derived.Test.YtnbllngljgmebaaDoorPackMti
namespace Go.Proofs.YtnbllngljgmebaaDoor
open Go.RowKit

theorem msgL_nil (sl : List Sp) : ∀ (l : List Item) (last : Int), (msgL sl last l).1 = 0 → msgL sl last l = (0, 0)
  | [], _, _ => rfl
  | x :: r, last, h => by
    by_cases h1 : fldE sl last x = 0
    · rw [msgL_ok h1] at h ⊢; exact msgL_nil sl r x.1 h
    · rw [msgL_bad h1] at h; exact absurd h h1
theorem msgN_nil {st v : Int} {sl : List Sp} {m : ByteArray} {l : List Item} (h : (msgN st v sl m l).1 = 0) : msgN st v sl m l = (0, 0) := by
  by_cases h1 : (schN st v sl).1 = 0
  · cases h2 : mtiV m v
    · rw [msgN_mti h1 h2] at h
      cases h
    · rw [msgN_list h1 h2] at h ⊢
      exact msgL_nil _ _ _ h
  · rw [msgN_arg h1] at h
    cases h
theorem with_sizes {no : Int} {t : ByteArray} {l : List Item} (hl : ∀ x ∈ l, x.2.size ≤ maxLen) (ht : t.size ≤ maxLen) : ∀ x ∈ withL no t l, x.2.size ≤ maxLen := fun x hx => by
  unfold withL at hx
  rcases ins_mem hx with h | h
  · rw [h]; exact ht
  · exact hl x (out_mem h).1
theorem found_size {no : Int} {l : List Item} (hl : ∀ x ∈ l, x.2.size ≤ maxLen) : findB l no = true → (findS l no).size ≤ maxLen := fun h => hl _ (find_mem h)
theorem ans_sizes {E : List Int} {C l : List Item} (er : Int) (hC : ∀ x ∈ C, x.2.size ≤ maxLen) (hl : ∀ x ∈ l, x.2.size ≤ maxLen) (h0 : findB C 0 = true) : ∀ x ∈ ansL E C er l, x.2.size ≤ maxLen := by
  unfold ansL
  refine with_sizes (fun x hx => ?_) ?_
  · obtain ⟨_, h2, h3⟩ := (echo_mem E l x).1 hx
    rw [← h3]
    exact found_size hl h2
  · unfold codeS
    by_cases h : findB C er = true
    · rw [if_pos h]; exact found_size hC h
    · rw [if_neg h]; exact found_size hC h0

set_option maxRecDepth 100000 in
set_option maxHeartbeats 25600000 in
theorem rjvalid_row (st v : Int) (A : Option Addr) (cA : Nat) (sl : List Sp) (X : Option Addr) (nM cM : Nat) (Y : Option Addr) (nR cR : Nat) (B : Option Addr) (cB : Nat) (E : List Int) (D : Option Addr) (cD : Nat) (C : List Item) (m : ByteArray) (F : Option Addr) (cF : Nat) (l : List Item) (er fd : Int) (w : World) (hK : Kinds w) (hA : Spl w A sl) (hl : sl.length ≤ maxLen) (hE : Ints w B E) (hle : E.length ≤ maxLen) (hcb : E.length ≤ cB) (hwe : ∀ z ∈ E, (Lit.int .i64 z).wf = true) (hC : Tlvs w D C) (hlc : C.length ≤ maxLen) (hcd : C.length ≤ cD) (hs : ∀ x ∈ C, x.2.size ≤ maxLen) (hze : E.length ≤ 20000000000000) (hm : m.size ≤ maxLen) (hF : Tlvs w F l) (hlf : l.length ≤ maxLen) (hft : ∀ x ∈ l, x.2.size ≤ maxLen) (hzl : l.length ≤ 5864062014700) (hwl : ∀ x ∈ l, (Lit.int .i64 x.1).wf = true) :
    Calls Tryd.prog 6 #[.agg #[.int .i64 st, .int .i64 v, .slice A sl.length cA, .slice X nM cM, .slice Y nR cR, .slice B E.length cB, .slice D C.length cD], .agg #[.string m, .slice F l.length cF], .agg #[.int .i64 er, .int .i64 fd]] w fun e w' => e = .returned (.bool true) ∧ Below w.heap.size w w' := by
  have _ := hl; have _ := hle; have _ := hcd; have _ := hlf
  have HAW := Lib.hid (fun W h => rjawake_any W h)
  have HG := Lib.hid (fun W h => rjgreat_any st v A cA sl X nM cM Y nR cR B cB E D cD C W h hs)
  have HGM := Lib.hid (fun W h => mgreat_any m F cF l W h hft)
  have HQ0 : Hid (LB w st v A sl.length cA X nM cM Y nR cR B E.length cB D C.length cD m F l.length cF er fd (((w.alloc (.cells #[.int .i64 st, .int .i64 v, .slice A sl.length cA, .slice X nM cM, .slice Y nR cR, .slice B E.length cB, .slice D C.length cD] 32)).alloc (.cells #[.string m, .slice F l.length cF] 45)).alloc (.cells #[.int .i64 er, .int .i64 fd] 47))) := lb_new
  have HK := Lib.hid hK
  have HA := Lib.hid hA
  have HE := Lib.hid hE
  have HC := Lib.hid hC
  have HF := Lib.hid hF
  cases hg : rjgB sl E C
  · obtain ⟨hg1, hg2, hg3, _⟩ := rjg_in hg
    rw [hg] at HG
    cases hgm : greatM m l
    · obtain ⟨hh1, hh2, _⟩ := great_in hgm
      rw [hgm] at HGM
      have HR := Lib.hid (fun W h1 h2 h3 => rjright_any st v A cA sl X nM cM Y nR cR B cB E D cD C W h1 h2 h3 (by omega) (by omega) hg3 hcb hs)
      by_cases hr : (rejN st v sl E C).1 = 0
      · rw [decide_eq_true hr] at HR
        have HRC := Lib.hid (fun W h1 h2 => mrcheck_any st v A cA sl m F cF l W h1 h2 (by omega) (by omega) hft hm)
        by_cases hv : (msgN st v sl m l).1 = 0
        · have hvz := msgN_nil hv
          rw [hvz] at HRC
          have HRQ := Lib.hid (fun W => mreq_any m W)
          cases hask : askB m.data.toList
          · rw [hask] at HRQ
            have HBU := Lib.hid (fun W => rjbuild_no st v A sl.length cA X nM cM Y nR cR B E.length cB D C.length cD m F l.length cF er fd W hask)
            have HSM : Hid (∀ W, Calls Tryd.prog 19 #[.agg #[.string ⟨#[]⟩, .slice none 0 0], .agg #[.string ⟨#[]⟩, .slice none 0 0]] W fun e w' => e = .returned (.bool true) ∧ Below W.heap.size W w') := fun W => by
              have := mrsame_any ⟨#[]⟩ none 0 [] ⟨#[]⟩ none 0 [] W (tlvs_nil _ _) (tlvs_nil _ _) (by simp)
              rw [sameM_refl] at this
              exact this
            clear hK hA hE hC hl hle hcb hwe hlc hcd hs hze hm hF hlf hft hzl hwl hg hg1 hg2 hg3 hgm hh1 hh2 hr hv hvz hask
            generalize sl.length = la at *
            generalize E.length = ne at *
            generalize C.length = nc at *
            generalize l.length = nl at *
            go_enter Tryd.func6, Tryd.ntmps6
            go_wp2_with fail
            generalize (((w.alloc (.cells #[.int .i64 st, .int .i64 v, .slice A la cA, .slice X nM cM, .slice Y nR cR, .slice B ne cB, .slice D nc cD] 32)).alloc (.cells #[.string m, .slice F nl cF] 45)).alloc (.cells #[.int .i64 er, .int .i64 fd] 47)) = U at *
            refine (HAW.out _ (HK.out.below HQ0.out.1)).mono ?_
            rintro e w1 ⟨rfl, hb1⟩
            have HQ1 := Lib.hid (HQ0.out.below hb1)
            clear hb1 HQ0
            obtain ⟨c0, c1, c2, c3, c4, c5, c6⟩ := HQ1.out.2.1.cells
            go_wp2_with fail
            clear c0 c1 c2 c3 c4 c5 c6
            refine (HG.out _ (HC.out.below HQ1.out.1)).mono ?_
            rintro e w2 ⟨rfl, hb2⟩
            have HQ2 := Lib.hid (HQ1.out.below hb2)
            clear hb2 HQ1 HG
            obtain ⟨m0, m1, _, _⟩ := obj_cells HQ2.out.2.2.1
            go_wp2_with fail
            clear m0 m1
            refine (HGM.out _ (HF.out.below HQ2.out.1)).mono ?_
            rintro e w3 ⟨rfl, hb3⟩
            have HQ3 := Lib.hid (HQ2.out.below hb3)
            clear hb3 HQ2 HGM
            obtain ⟨c0, c1, c2, c3, c4, c5, c6⟩ := HQ3.out.2.1.cells
            go_wp2_with fail
            clear c0 c1 c2 c3 c4 c5 c6
            refine (HR.out _ (HA.out.below HQ3.out.1) (HE.out.below HQ3.out.1) (HC.out.below HQ3.out.1)).mono ?_
            rintro e w4 ⟨rfl, hb4⟩
            have HQ4 := Lib.hid (HQ3.out.below hb4)
            clear hb4 HQ3 HR
            obtain ⟨c0, c1, c2, c3, c4, c5, c6⟩ := HQ4.out.2.1.cells
            obtain ⟨m0, m1, _, _⟩ := obj_cells HQ4.out.2.2.1
            go_wp2_with fail
            clear c0 c1 c2 c3 c4 c5 c6 m0 m1
            refine (HRC.out _ (HA.out.below HQ4.out.1) (HF.out.below HQ4.out.1)).mono ?_
            rintro e w5 ⟨rfl, hb5⟩
            have HQ5 := Lib.hid (HQ4.out.below hb5)
            clear hb5 HQ4 HRC
            obtain ⟨c0, c1, c2, c3, c4, c5, c6⟩ := HQ5.out.2.1.cells
            obtain ⟨m0, m1, _, _⟩ := obj_cells HQ5.out.2.2.1
            obtain ⟨f0, f1, _, _⟩ := obj_cells HQ5.out.2.2.2
            go_wp2_with fail
            clear c0 c1 c2 c3 c4 c5 c6 m0 m1 f0 f1
            refine (HBU.out _).mono ?_
            rintro e w6 ⟨rfl, hb6⟩
            have hbm := below_al w6 (.cells #[.string ⟨#[]⟩, .slice none 0 0] 45)
            have HQ6 := Lib.hid (HQ5.out.below (hbt hb6 hbm))
            have HX6 : Hid (MBox (w6.alloc (.cells #[.string ⟨#[]⟩, .slice none 0 0] 45)) w6.heap.size ⟨#[]⟩ none 0 0) := mbox_new _ _ _ _ _
            clear hb6 hbm HQ5
            go_upto_region 4 with fail
            generalize w6.alloc (.cells #[.string ⟨#[]⟩, .slice none 0 0] 45) = W6 at *
            generalize w6.heap.size = g6 at *
            obtain ⟨m0, m1, _, _⟩ := obj_cells HQ6.out.2.2.1
            go_wp2_with fail
            clear m0 m1
            refine (HRQ.out _).mono ?_
            rintro e w7 ⟨rfl, hb7⟩
            have HQ7 := Lib.hid (HQ6.out.below hb7)
            have HX7 := Lib.hid (HX6.out.below hb7)
            clear hb7 HQ6 HX6
            obtain ⟨d0, d1, _, _⟩ := obj_cells HX7.out
            go_wp2_with fail
            clear d0 d1
            refine (HSM.out _).mono ?_
            rintro e w8 ⟨rfl, hb8⟩
            go_wp2
            go_ret
            exact ⟨rfl, hbt HQ7.out.1 hb8⟩
          · obtain ⟨a1, a2⟩ := rej_valid hr hvz hask er
            have hal := ans_len E C er l
            have hsz := ans_sizes (E := E) (l := l) er hs hft (rej_zero hr).2.2.2.2
            have HBU := Lib.hid (fun W h1 h2 h3 => rjbuild_yes st v A sl.length cA X nM cM Y nR cR B cB E D cD C m F cF l er fd W hask h1 h2 h3 hze hlc hzl hwe hwl)
            have HCK := Lib.hid (fun P k W k0 h1 h2 => mcheck_any st v A cA sl (respM m) P k (ansL E C er l) W k0 h1 h2 (by omega) (by omega) hsz)
            rw [a1] at HCK
            have HRX := Lib.hid (fun W => mreq_any (respM m) W)
            rw [a2] at HRX
            clear hK hA hE hC hl hle hcb hwe hlc hcd hs hze hm hF hlf hft hzl hwl hg hg1 hg2 hg3 hgm hh1 hh2 hr hv hvz hask a1 a2 hal hsz HRQ
            generalize ansL E C er l = TL at *
            generalize respM m = t1 at *
            generalize TL.length = tn at *
            generalize sl.length = la at *
            generalize E.length = ne at *
            generalize C.length = nc at *
            generalize l.length = nl at *
            go_enter Tryd.func6, Tryd.ntmps6
            go_wp2_with fail
            generalize (((w.alloc (.cells #[.int .i64 st, .int .i64 v, .slice A la cA, .slice X nM cM, .slice Y nR cR, .slice B ne cB, .slice D nc cD] 32)).alloc (.cells #[.string m, .slice F nl cF] 45)).alloc (.cells #[.int .i64 er, .int .i64 fd] 47)) = U at *
            refine (HAW.out _ (HK.out.below HQ0.out.1)).mono ?_
            rintro e w1 ⟨rfl, hb1⟩
            have HQ1 := Lib.hid (HQ0.out.below hb1)
            clear hb1 HQ0
            obtain ⟨c0, c1, c2, c3, c4, c5, c6⟩ := HQ1.out.2.1.cells
            go_wp2_with fail
            clear c0 c1 c2 c3 c4 c5 c6
            refine (HG.out _ (HC.out.below HQ1.out.1)).mono ?_
            rintro e w2 ⟨rfl, hb2⟩
            have HQ2 := Lib.hid (HQ1.out.below hb2)
            clear hb2 HQ1 HG
            obtain ⟨m0, m1, _, _⟩ := obj_cells HQ2.out.2.2.1
            go_wp2_with fail
            clear m0 m1
            refine (HGM.out _ (HF.out.below HQ2.out.1)).mono ?_
            rintro e w3 ⟨rfl, hb3⟩
            have HQ3 := Lib.hid (HQ2.out.below hb3)
            clear hb3 HQ2 HGM
            obtain ⟨c0, c1, c2, c3, c4, c5, c6⟩ := HQ3.out.2.1.cells
            go_wp2_with fail
            clear c0 c1 c2 c3 c4 c5 c6
            refine (HR.out _ (HA.out.below HQ3.out.1) (HE.out.below HQ3.out.1) (HC.out.below HQ3.out.1)).mono ?_
            rintro e w4 ⟨rfl, hb4⟩
            have HQ4 := Lib.hid (HQ3.out.below hb4)
            clear hb4 HQ3 HR
            obtain ⟨c0, c1, c2, c3, c4, c5, c6⟩ := HQ4.out.2.1.cells
            obtain ⟨m0, m1, _, _⟩ := obj_cells HQ4.out.2.2.1
            go_wp2_with fail
            clear c0 c1 c2 c3 c4 c5 c6 m0 m1
            refine (HRC.out _ (HA.out.below HQ4.out.1) (HF.out.below HQ4.out.1)).mono ?_
            rintro e w5 ⟨rfl, hb5⟩
            have HQ5 := Lib.hid (HQ4.out.below hb5)
            clear hb5 HQ4 HRC
            obtain ⟨c0, c1, c2, c3, c4, c5, c6⟩ := HQ5.out.2.1.cells
            obtain ⟨m0, m1, _, _⟩ := obj_cells HQ5.out.2.2.1
            obtain ⟨f0, f1, _, _⟩ := obj_cells HQ5.out.2.2.2
            go_wp2_with fail
            clear c0 c1 c2 c3 c4 c5 c6 m0 m1 f0 f1
            refine (HBU.out _ (HE.out.below HQ5.out.1) (HC.out.below HQ5.out.1) (HF.out.below HQ5.out.1)).mono ?_
            rintro e w6 ⟨P, k, rfl, ht6, hb6⟩
            have hbm := below_al w6 (.cells #[.string t1, .slice P tn k] 45)
            have HQ6 := Lib.hid (HQ5.out.below (hbt hb6 hbm))
            have HT6 := Lib.hid (ht6.below hbm)
            have HX6 : Hid (MBox (w6.alloc (.cells #[.string t1, .slice P tn k] 45)) w6.heap.size t1 P tn k) := mbox_new _ _ _ _ _
            clear hb6 hbm ht6 HQ5
            go_upto_region 4 with fail
            generalize w6.alloc (.cells #[.string t1, .slice P tn k] 45) = W6 at *
            generalize w6.heap.size = g6 at *
            obtain ⟨c0, c1, c2, c3, c4, c5, c6⟩ := HQ6.out.2.1.cells
            obtain ⟨d0, d1, _, _⟩ := obj_cells HX6.out
            go_wp2_with fail
            clear c0 c1 c2 c3 c4 c5 c6 d0 d1
            refine (HCK.out P k _ (HK.out.below HQ6.out.1) (HA.out.below HQ6.out.1) HT6.out).mono ?_
            rintro e w7 ⟨rfl, hb7⟩
            have HQ7 := Lib.hid (HQ6.out.below hb7)
            have HX7 := Lib.hid (HX6.out.below hb7)
            clear hb7 HQ6 HX6
            obtain ⟨d0, d1, _, _⟩ := obj_cells HX7.out
            go_wp2_with fail
            clear d0 d1
            refine (HRX.out _).mono ?_
            rintro e w8 ⟨rfl, hb8⟩
            go_wp2
            go_ret
            exact ⟨rfl, hbt HQ7.out.1 hb8⟩
        · have tk : ((msgN st v sl m l).1 == 0) = false := by simpa using hv
          clear hK hA hE hC hl hle hcb hwe hlc hcd hs hze hm hF hlf hft hzl hwl hg hg1 hg2 hg3 hgm hh1 hh2 hr hv
          generalize (msgN st v sl m l).1 = f1 at *
          generalize (msgN st v sl m l).2 = f2 at *
          generalize sl.length = la at *
          generalize E.length = ne at *
          generalize C.length = nc at *
          generalize l.length = nl at *
          go_enter Tryd.func6, Tryd.ntmps6
          go_wp2_with fail
          generalize (((w.alloc (.cells #[.int .i64 st, .int .i64 v, .slice A la cA, .slice X nM cM, .slice Y nR cR, .slice B ne cB, .slice D nc cD] 32)).alloc (.cells #[.string m, .slice F nl cF] 45)).alloc (.cells #[.int .i64 er, .int .i64 fd] 47)) = U at *
          refine (HAW.out _ (HK.out.below HQ0.out.1)).mono ?_
          rintro e w1 ⟨rfl, hb1⟩
          have HQ1 := Lib.hid (HQ0.out.below hb1)
          clear hb1 HQ0
          obtain ⟨c0, c1, c2, c3, c4, c5, c6⟩ := HQ1.out.2.1.cells
          go_wp2_with fail
          clear c0 c1 c2 c3 c4 c5 c6
          refine (HG.out _ (HC.out.below HQ1.out.1)).mono ?_
          rintro e w2 ⟨rfl, hb2⟩
          have HQ2 := Lib.hid (HQ1.out.below hb2)
          clear hb2 HQ1 HG
          obtain ⟨m0, m1, _, _⟩ := obj_cells HQ2.out.2.2.1
          go_wp2_with fail
          clear m0 m1
          refine (HGM.out _ (HF.out.below HQ2.out.1)).mono ?_
          rintro e w3 ⟨rfl, hb3⟩
          have HQ3 := Lib.hid (HQ2.out.below hb3)
          clear hb3 HQ2 HGM
          obtain ⟨c0, c1, c2, c3, c4, c5, c6⟩ := HQ3.out.2.1.cells
          go_wp2_with fail
          clear c0 c1 c2 c3 c4 c5 c6
          refine (HR.out _ (HA.out.below HQ3.out.1) (HE.out.below HQ3.out.1) (HC.out.below HQ3.out.1)).mono ?_
          rintro e w4 ⟨rfl, hb4⟩
          have HQ4 := Lib.hid (HQ3.out.below hb4)
          clear hb4 HQ3 HR
          obtain ⟨c0, c1, c2, c3, c4, c5, c6⟩ := HQ4.out.2.1.cells
          obtain ⟨m0, m1, _, _⟩ := obj_cells HQ4.out.2.2.1
          go_wp2_with fail
          clear c0 c1 c2 c3 c4 c5 c6 m0 m1
          refine (HRC.out _ (HA.out.below HQ4.out.1) (HF.out.below HQ4.out.1)).mono ?_
          rintro e w5 ⟨rfl, hb5⟩
          have HQ5 := Lib.hid (HQ4.out.below hb5)
          clear hb5 HQ4 HRC
          go_wp2_with fail
          refine (HAW.out _ (HK.out.below HQ5.out.1)).mono ?_
          rintro e w9 ⟨rfl, hb9⟩
          go_wp2
          go_ret
          exact ⟨rfl, hbt HQ5.out.1 hb9⟩
      · rw [decide_eq_false hr] at HR
        clear hK hA hE hC hl hle hcb hwe hlc hcd hs hze hm hF hlf hft hzl hwl hg hg1 hg2 hg3 hgm hh1 hh2 hr
        generalize sl.length = la at *
        generalize E.length = ne at *
        generalize C.length = nc at *
        generalize l.length = nl at *
        go_enter Tryd.func6, Tryd.ntmps6
        go_wp2_with fail
        generalize (((w.alloc (.cells #[.int .i64 st, .int .i64 v, .slice A la cA, .slice X nM cM, .slice Y nR cR, .slice B ne cB, .slice D nc cD] 32)).alloc (.cells #[.string m, .slice F nl cF] 45)).alloc (.cells #[.int .i64 er, .int .i64 fd] 47)) = U at *
        refine (HAW.out _ (HK.out.below HQ0.out.1)).mono ?_
        rintro e w1 ⟨rfl, hb1⟩
        have HQ1 := Lib.hid (HQ0.out.below hb1)
        clear hb1 HQ0
        obtain ⟨c0, c1, c2, c3, c4, c5, c6⟩ := HQ1.out.2.1.cells
        go_wp2_with fail
        clear c0 c1 c2 c3 c4 c5 c6
        refine (HG.out _ (HC.out.below HQ1.out.1)).mono ?_
        rintro e w2 ⟨rfl, hb2⟩
        have HQ2 := Lib.hid (HQ1.out.below hb2)
        clear hb2 HQ1 HG
        obtain ⟨m0, m1, _, _⟩ := obj_cells HQ2.out.2.2.1
        go_wp2_with fail
        clear m0 m1
        refine (HGM.out _ (HF.out.below HQ2.out.1)).mono ?_
        rintro e w3 ⟨rfl, hb3⟩
        have HQ3 := Lib.hid (HQ2.out.below hb3)
        clear hb3 HQ2 HGM
        obtain ⟨c0, c1, c2, c3, c4, c5, c6⟩ := HQ3.out.2.1.cells
        go_wp2_with fail
        clear c0 c1 c2 c3 c4 c5 c6
        refine (HR.out _ (HA.out.below HQ3.out.1) (HE.out.below HQ3.out.1) (HC.out.below HQ3.out.1)).mono ?_
        rintro e w4 ⟨rfl, hb4⟩
        have HQ4 := Lib.hid (HQ3.out.below hb4)
        clear hb4 HQ3 HR
        go_wp2_with fail
        refine (HAW.out _ (HK.out.below HQ4.out.1)).mono ?_
        rintro e w9 ⟨rfl, hb9⟩
        go_wp2
        go_ret
        exact ⟨rfl, hbt HQ4.out.1 hb9⟩
    · rw [hgm] at HGM
      clear hK hA hE hC hl hle hcb hwe hlc hcd hs hze hm hF hlf hft hzl hwl hg hg1 hg2 hg3 hgm
      generalize sl.length = la at *
      generalize E.length = ne at *
      generalize C.length = nc at *
      generalize l.length = nl at *
      go_enter Tryd.func6, Tryd.ntmps6
      go_wp2_with fail
      generalize (((w.alloc (.cells #[.int .i64 st, .int .i64 v, .slice A la cA, .slice X nM cM, .slice Y nR cR, .slice B ne cB, .slice D nc cD] 32)).alloc (.cells #[.string m, .slice F nl cF] 45)).alloc (.cells #[.int .i64 er, .int .i64 fd] 47)) = U at *
      refine (HAW.out _ (HK.out.below HQ0.out.1)).mono ?_
      rintro e w1 ⟨rfl, hb1⟩
      have HQ1 := Lib.hid (HQ0.out.below hb1)
      clear hb1 HQ0
      obtain ⟨c0, c1, c2, c3, c4, c5, c6⟩ := HQ1.out.2.1.cells
      go_wp2_with fail
      clear c0 c1 c2 c3 c4 c5 c6
      refine (HG.out _ (HC.out.below HQ1.out.1)).mono ?_
      rintro e w2 ⟨rfl, hb2⟩
      have HQ2 := Lib.hid (HQ1.out.below hb2)
      clear hb2 HQ1 HG
      obtain ⟨m0, m1, _, _⟩ := obj_cells HQ2.out.2.2.1
      go_wp2_with fail
      clear m0 m1
      refine (HGM.out _ (HF.out.below HQ2.out.1)).mono ?_
      rintro e w3 ⟨rfl, hb3⟩
      have HQ3 := Lib.hid (HQ2.out.below hb3)
      clear hb3 HQ2 HGM
      go_wp2_with fail
      refine (HAW.out _ (HK.out.below HQ3.out.1)).mono ?_
      rintro e w9 ⟨rfl, hb9⟩
      go_wp2
      go_ret
      exact ⟨rfl, hbt HQ3.out.1 hb9⟩
  · rw [hg] at HG
    clear hK hA hE hC hl hle hcb hwe hlc hcd hs hze hm hF hlf hft hzl hwl hg HGM
    generalize sl.length = la at *
    generalize E.length = ne at *
    generalize C.length = nc at *
    generalize l.length = nl at *
    go_enter Tryd.func6, Tryd.ntmps6
    go_wp2_with fail
    generalize (((w.alloc (.cells #[.int .i64 st, .int .i64 v, .slice A la cA, .slice X nM cM, .slice Y nR cR, .slice B ne cB, .slice D nc cD] 32)).alloc (.cells #[.string m, .slice F nl cF] 45)).alloc (.cells #[.int .i64 er, .int .i64 fd] 47)) = U at *
    refine (HAW.out _ (HK.out.below HQ0.out.1)).mono ?_
    rintro e w1 ⟨rfl, hb1⟩
    have HQ1 := Lib.hid (HQ0.out.below hb1)
    clear hb1 HQ0
    obtain ⟨c0, c1, c2, c3, c4, c5, c6⟩ := HQ1.out.2.1.cells
    go_wp2_with fail
    clear c0 c1 c2 c3 c4 c5 c6
    refine (HG.out _ (HC.out.below HQ1.out.1)).mono ?_
    rintro e w2 ⟨rfl, hb2⟩
    have HQ2 := Lib.hid (HQ1.out.below hb2)
    clear hb2 HQ1 HG
    go_wp2_with fail
    refine (HAW.out _ (HK.out.below HQ2.out.1)).mono ?_
    rintro e w9 ⟨rfl, hb9⟩
    go_wp2
    go_ret
    exact ⟨rfl, hbt HQ2.out.1 hb9⟩

end Go.Proofs.YtnbllngljgmebaaDoor
