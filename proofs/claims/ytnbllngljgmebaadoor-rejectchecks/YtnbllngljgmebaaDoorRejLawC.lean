/-
  The law RejectChecks: for every side, in every world where the table of kinds reads as it is laid.
-/
import Derived.Test.YtnbllngljgmebaaDoorRejLq
namespace Go.Proofs.YtnbllngljgmebaaDoor
open Go.RowKit

set_option maxRecDepth 100000 in
set_option maxHeartbeats 12800000 in
theorem rjchecks_row (st v : Int) (A : Option Addr) (cA : Nat) (sl : List Sp) (X : Option Addr) (nM cM : Nat) (Y : Option Addr) (nR cR : Nat) (B : Option Addr) (cB : Nat) (E : List Int) (D : Option Addr) (cD : Nat) (C : List Item) (w : World) (hK : Kinds w) (hA : Spl w A sl) (hl : sl.length ≤ maxLen) (hE : Ints w B E) (hle : E.length ≤ maxLen) (hcb : E.length ≤ cB) (hwe : ∀ z ∈ E, (Lit.int .i64 z).wf = true) (hC : Tlvs w D C) (hlc : C.length ≤ maxLen) (hcd : C.length ≤ cD) (hs : ∀ x ∈ C, x.2.size ≤ maxLen) (hze : E.length ≤ 20000000000000) :
    Calls Tryd.prog 3 #[.agg #[.int .i64 st, .int .i64 v, .slice A sl.length cA, .slice X nM cM, .slice Y nR cR, .slice B E.length cB, .slice D C.length cD]] w fun e w' => e = .returned (.bool true) ∧ Below w.heap.size w w' := by
  have _ := hl; have _ := hle; have _ := hwe; have _ := hlc; have _ := hcd; have _ := hze
  have HAW := Lib.hid (fun W h => rjawake_any W h)
  have HG := Lib.hid (fun W h => rjgreat_any st v A cA sl X nM cM Y nR cR B cB E D cD C W h hs)
  have HX0 : Hid (Below w.heap.size w (w.alloc (.cells #[.int .i64 st, .int .i64 v, .slice A sl.length cA, .slice X nM cM, .slice Y nR cR, .slice B E.length cB, .slice D C.length cD] 32)) ∧ SBox (w.alloc (.cells #[.int .i64 st, .int .i64 v, .slice A sl.length cA, .slice X nM cM, .slice Y nR cR, .slice B E.length cB, .slice D C.length cD] 32)) w.heap.size st v A sl.length cA X nM cM Y nR cR B E.length cB D C.length cD) := ⟨below_al _ _, sbox_new⟩
  have HK := Lib.hid hK
  have HA := Lib.hid hA
  have HE := Lib.hid hE
  have HC := Lib.hid hC
  cases hg : rjgB sl E C
  · obtain ⟨hg1, hg2, hg3, _⟩ := rjg_in hg
    rw [hg] at HG
    have HCP := Lib.hid (fun W h1 h2 h3 => rjcopy_some st v A cA sl X nM cM Y nR cR B cB E D cD C W h1 h2 h3 (by omega) (by omega) (by omega))
    have HCK := Lib.hid (fun (P : Option Addr × Option Addr × Option Addr) (c : Nat × Nat × Nat) W k0 (h : ScAt sl E C P c W) => rjcheck_any st v P.1 c.1 sl X nM cM Y nR cR P.2.1 c.2.1 E P.2.2 c.2.2 C W k0 h.1 h.2.1 h.2.2.2.1 (by omega) (by omega) (by omega) h.2.2.1 h.2.2.2.2 hs)
    have HRC := Lib.hid (fun W h1 h2 h3 => rjref_any st v A cA sl X nM cM Y nR cR B cB E D cD C W h1 h2 h3 (by omega) (by omega) hg3 hcb hs)
    clear hK hA hE hC hl hle hcb hwe hlc hcd hs hze hg hg1 hg2 hg3
    generalize rejN st v sl E C = R at *
    obtain ⟨r1, r2, r3⟩ := R
    generalize sl.length = la at *
    generalize E.length = ne at *
    generalize C.length = nc at *
    go_enter Tryd.func3, Tryd.ntmps3
    go_wp2_with fail
    generalize w.alloc (.cells #[.int .i64 st, .int .i64 v, .slice A la cA, .slice X nM cM, .slice Y nR cR, .slice B ne cB, .slice D nc cD] 32) = U at *
    refine (HAW.out _ (HK.out.below HX0.out.1)).mono ?_
    rintro e w1 ⟨rfl, hb1⟩
    have HX1 : Hid (Below w.heap.size w w1 ∧ SBox w1 w.heap.size st v A la cA X nM cM Y nR cR B ne cB D nc cD) := ⟨hbt HX0.out.1 hb1, HX0.out.2.below hb1⟩
    clear hb1 HX0
    obtain ⟨c0, c1, c2, c3, c4, c5, c6⟩ := HX1.out.2.cells
    go_wp2_with fail
    clear c0 c1 c2 c3 c4 c5 c6
    refine (HG.out _ (HC.out.below HX1.out.1)).mono ?_
    rintro e w2 ⟨rfl, hb2⟩
    have HX2 : Hid (Below w.heap.size w w2 ∧ SBox w2 w.heap.size st v A la cA X nM cM Y nR cR B ne cB D nc cD) := ⟨hbt HX1.out.1 hb2, HX1.out.2.below hb2⟩
    clear hb2 HX1 HG
    obtain ⟨c0, c1, c2, c3, c4, c5, c6⟩ := HX2.out.2.cells
    go_wp2_with fail
    clear c0 c1 c2 c3 c4 c5 c6
    refine (HCP.out _ (HA.out.below HX2.out.1) (HE.out.below HX2.out.1) (HC.out.below HX2.out.1)).mono ?_
    rintro e w3 ⟨_, rfl, P, c, rfl, ht3, hb3⟩
    have HB3 := Lib.hid (hbt HX2.out.1 hb3)
    have HX3 := Lib.hid (HX2.out.2.below hb3)
    have HT3 := Lib.hid ht3
    clear hb3 ht3 HX2 HCP
    go_wp2_with fail
    refine (HCK.out P c _ (HK.out.below HB3.out) HT3.out).mono ?_
    rintro e w4 ⟨rfl, hb4⟩
    have HB4 := Lib.hid (hbt HB3.out hb4)
    have HX4 := Lib.hid (HX3.out.below hb4)
    clear hb4 HB3 HX3 HCK HT3
    obtain ⟨c0, c1, c2, c3, c4, c5, c6⟩ := HX4.out.cells
    go_wp2_with fail
    clear c0 c1 c2 c3 c4 c5 c6
    refine (HRC.out _ (HA.out.below HB4.out) (HE.out.below HB4.out) (HC.out.below HB4.out)).mono ?_
    rintro e w5 ⟨rfl, hb5⟩
    have HB5 := Lib.hid (hbt HB4.out hb5)
    clear hb5
    have q1 : (r1 == r1) = true := by simp
    have q2 : (r2 == r2) = true := by simp
    have q3 : (r3 == r3) = true := by simp
    go_wp2
    go_ret
    exact ⟨by simp, HB5.out⟩
  · rw [hg] at HG
    clear hK hA hE hC hl hle hcb hwe hlc hcd hs hze hg
    generalize sl.length = la at *
    generalize E.length = ne at *
    generalize C.length = nc at *
    go_enter Tryd.func3, Tryd.ntmps3
    go_wp2_with fail
    generalize w.alloc (.cells #[.int .i64 st, .int .i64 v, .slice A la cA, .slice X nM cM, .slice Y nR cR, .slice B ne cB, .slice D nc cD] 32) = U at *
    refine (HAW.out _ (HK.out.below HX0.out.1)).mono ?_
    rintro e w1 ⟨rfl, hb1⟩
    have HX1 : Hid (Below w.heap.size w w1 ∧ SBox w1 w.heap.size st v A la cA X nM cM Y nR cR B ne cB D nc cD) := ⟨hbt HX0.out.1 hb1, HX0.out.2.below hb1⟩
    clear hb1 HX0
    obtain ⟨c0, c1, c2, c3, c4, c5, c6⟩ := HX1.out.2.cells
    go_wp2_with fail
    clear c0 c1 c2 c3 c4 c5 c6
    refine (HG.out _ (HC.out.below HX1.out.1)).mono ?_
    rintro e w2 ⟨rfl, hb2⟩
    have HB2 := Lib.hid (hbt HX1.out.1 hb2)
    clear hb2 HX1 HG
    go_wp2_with fail
    refine (HAW.out _ (HK.out.below HB2.out)).mono ?_
    rintro e w9 ⟨rfl, hb9⟩
    go_wp2
    go_ret
    exact ⟨rfl, hbt HB2.out hb9⟩

end Go.Proofs.YtnbllngljgmebaaDoor
