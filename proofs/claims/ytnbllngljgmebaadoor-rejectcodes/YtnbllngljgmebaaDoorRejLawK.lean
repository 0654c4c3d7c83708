/-
  The law RejectCodes: for every side and error, in every world where the table of kinds reads as it is laid.
-/
import Derived.Test.YtnbllngljgmebaaDoorRejLq
namespace Go.Proofs.YtnbllngljgmebaaDoor
open Go.RowKit

set_option maxRecDepth 100000 in
set_option maxHeartbeats 12800000 in
theorem rjcodes_row (st v : Int) (A : Option Addr) (cA : Nat) (sl : List Sp) (X : Option Addr) (nM cM : Nat) (Y : Option Addr) (nR cR : Nat) (B : Option Addr) (cB : Nat) (E : List Int) (D : Option Addr) (cD : Nat) (C : List Item) (er : Int) (w : World) (hK : Kinds w) (hA : Spl w A sl) (hl : sl.length ≤ maxLen) (hE : Ints w B E) (hle : E.length ≤ maxLen) (hcb : E.length ≤ cB) (hwe : ∀ z ∈ E, (Lit.int .i64 z).wf = true) (hC : Tlvs w D C) (hlc : C.length ≤ maxLen) (hcd : C.length ≤ cD) (hs : ∀ x ∈ C, x.2.size ≤ maxLen) (hze : E.length ≤ 20000000000000) (h0 : -9223372036854775808 ≤ er) (h1 : er ≤ 9223372036854775807) :
    Calls Tryd.prog 4 #[.agg #[.int .i64 st, .int .i64 v, .slice A sl.length cA, .slice X nM cM, .slice Y nR cR, .slice B E.length cB, .slice D C.length cD], .int .i64 er] w fun e w' => e = .returned (.bool true) ∧ Below w.heap.size w w' := by
  have _ := hl; have _ := hle; have _ := hcb; have _ := hwe; have _ := hlc; have _ := hcd; have _ := hze; have _ := h0; have _ := h1
  have HAW := Lib.hid (fun W h => rjawake_any W h)
  have HG := Lib.hid (fun W h => rjgreat_any st v A cA sl X nM cM Y nR cR B cB E D cD C W h hs)
  have HX0 : Hid (Below w.heap.size w (w.alloc (.cells #[.int .i64 st, .int .i64 v, .slice A sl.length cA, .slice X nM cM, .slice Y nR cR, .slice B E.length cB, .slice D C.length cD] 32)) ∧ SBox (w.alloc (.cells #[.int .i64 st, .int .i64 v, .slice A sl.length cA, .slice X nM cM, .slice Y nR cR, .slice B E.length cB, .slice D C.length cD] 32)) w.heap.size st v A sl.length cA X nM cM Y nR cR B E.length cB D C.length cD) := ⟨below_al _ _, sbox_new⟩
  have HK := Lib.hid hK
  have HA := Lib.hid hA
  have HE := Lib.hid hE
  have HC := Lib.hid hC
  cases hg : rjgB sl E C
  · obtain ⟨hg1, hg2, hg3, _⟩ := rjg_in hg
    rw [hg] at HG
    have HCP := Lib.hid (fun W h1 h2 h3 => rjcopy_some st v A cA sl X nM cM Y nR cR B cB E D cD C W h1 h2 h3 (by omega) (by omega) (by omega))
    have HCD := Lib.hid (fun (P : Option Addr × Option Addr × Option Addr) (c : Nat × Nat × Nat) W (h : ScAt sl E C P c W) => code_any st v P.1 sl.length c.1 X nM cM Y nR cR P.2.1 E.length c.2.1 P.2.2 c.2.2 C er W h.2.2.2.1 hlc)
    have HRC := Lib.hid (fun W h => refCode_any st v A sl.length cA X nM cM Y nR cR B E.length cB D cD C er W h hg3)
    clear hK hA hE hC hl hle hcb hwe hlc hcd hs hze hg hg1 hg2 hg3 h0 h1
    generalize codeS C er = cs at *
    generalize sl.length = la at *
    generalize E.length = ne at *
    generalize C.length = nc at *
    go_enter Tryd.func4, Tryd.ntmps4
    go_wp2_with fail
    generalize w.alloc (.cells #[.int .i64 st, .int .i64 v, .slice A la cA, .slice X nM cM, .slice Y nR cR, .slice B ne cB, .slice D nc cD] 32) = U at *
    refine (HAW.out _ (HK.out.below HX0.out.1)).mono ?_
    rintro e w1 ⟨rfl, hb1⟩
    have HX1 : Hid (Below w.heap.size w w1 ∧ SBox w1 w.heap.size st v A la cA X nM cM Y nR cR B ne cB D nc cD) := ⟨hbt HX0.out.1 hb1, HX0.out.2.below hb1⟩
    clear hb1 HX0
    obtain ⟨c0, c1, c2, c3, c4, c5, c6⟩ := HX1.out.2.cells
    go_wp2_with fail
    clear c0 c1 c2 c3 c4 c5 c6
    refine (HG.out _ (HC.out.below HX1.out.1)).mono ?_
    rintro e w2 ⟨rfl, hb2⟩
    have HX2 : Hid (Below w.heap.size w w2 ∧ SBox w2 w.heap.size st v A la cA X nM cM Y nR cR B ne cB D nc cD) := ⟨hbt HX1.out.1 hb2, HX1.out.2.below hb2⟩
    clear hb2 HX1 HG
    go_wp2_with fail
    refine wp_region_noPanic ?_
    refine wp_region_held_drew (S := (fun u => Below w2.heap.size w2 u)) (by kernel_rfl) ((Below.refl _ _).drew) (fun hS => ?_)
    refine gv 0 (v := ?_) (fun u hu => ?_) hS ?_
    rotate_left
    · ((obtain ⟨c0, c1, c2, c3, c4, c5, c6⟩ := (HX2.out.2.below hu).cells); go_simp; try (with_reducible rfl))
    try simp only [puts]
    refine gv 2 (v := ?_) (fun u hu => ?_) hS ?_
    rotate_left
    · ((obtain ⟨c0, c1, c2, c3, c4, c5, c6⟩ := (HX2.out.2.below hu).cells); go_simp; try (with_reducible rfl))
    try simp only [puts]
    refine gv 4 (v := ?_) (fun u hu => ?_) hS ?_
    rotate_left
    · ((obtain ⟨c0, c1, c2, c3, c4, c5, c6⟩ := (HX2.out.2.below hu).cells); go_simp; try (with_reducible rfl))
    try simp only [puts]
    refine gv 5 (v := ?_) (fun u hu => ?_) hS ?_
    rotate_left
    · ((obtain ⟨c0, c1, c2, c3, c4, c5, c6⟩ := (HX2.out.2.below hu).cells); go_simp; try (with_reducible rfl))
    try simp only [puts]
    refine only_some (i := 1) 11 #[.agg #[.int .i64 st, .int .i64 v, .slice A la cA, .slice X nM cM, .slice Y nR cR, .slice B ne cB, .slice D nc cD]] rfl (by kernel_rfl) (by rfl) ((HCP.out _ (HA.out.below (hbt HX2.out.1 hS)) (HE.out.below (hbt HX2.out.1 hS)) (HC.out.below (hbt HX2.out.1 hS)))) ?_ ?_
    · (go_simp; try (with_reducible rfl))
    intro v1 w1 hT
    obtain ⟨P, c, rfl, ht1, hb1⟩ := hT
    have hS' := hbt hS hb1
    refine ⟨hS', ?_⟩
    clear hS
    have hS := hS'; clear hS'
    try simp only [puts]
    clear hb1
    refine only_call (i := 3) 13 #[.agg #[.int .i64 st, .int .i64 v, .slice P.1 la c.1, .slice X nM cM, .slice Y nR cR, .slice P.2.1 ne c.2.1, .slice P.2.2 nc c.2.2], .int .i64 er] rfl (by kernel_rfl) (by rfl) ((HCD.out P c _ ht1).mono fun e w' he => ⟨he.1, hbt hS he.2⟩) ?_ ?_
    · (go_simp; try (with_reducible rfl))
    clear hS
    intro w3 hS
    try simp only [puts]
    refine only_call (i := 6) 14 #[.agg #[.int .i64 st, .int .i64 v, .slice A la cA, .slice X nM cM, .slice Y nR cR, .slice B ne cB, .slice D nc cD], .int .i64 er] rfl (by kernel_rfl) (by rfl) ((HRC.out _ (HC.out.below (hbt HX2.out.1 hS))).mono fun e w' he => ⟨he.1, hbt hS he.2⟩) ?_ ?_
    · (go_simp; try (with_reducible rfl))
    clear hS
    intro w6 hS
    try simp only [puts]
    refine gv 7 (v := ?_) (fun u hu => ?_) hS ?_
    rotate_left
    · ((obtain ⟨c0, c1, c2, c3, c4, c5, c6⟩ := (HX2.out.2.below hu).cells); go_simp; try (with_reducible rfl))
    try simp only [puts]
    refine gv 8 (v := ?_) (fun u hu => ?_) hS ?_
    rotate_left
    · ((obtain ⟨c0, c1, c2, c3, c4, c5, c6⟩ := (HX2.out.2.below hu).cells); go_simp; try (with_reducible rfl))
    try simp only [puts]
    refine wpAnyH_done (by kernel_rfl) (NoPanic.normal ?_) _
    go_wp2
    go_ret
    exact ⟨by simp, hbt HX2.out.1 hS⟩
  · rw [hg] at HG
    clear hK hA hE hC hl hle hcb hwe hlc hcd hs hze hg h0 h1
    generalize sl.length = la at *
    generalize E.length = ne at *
    generalize C.length = nc at *
    go_enter Tryd.func4, Tryd.ntmps4
    go_wp2_with fail
    generalize w.alloc (.cells #[.int .i64 st, .int .i64 v, .slice A la cA, .slice X nM cM, .slice Y nR cR, .slice B ne cB, .slice D nc cD] 32) = U at *
    refine (HAW.out _ (HK.out.below HX0.out.1)).mono ?_
    rintro e w1 ⟨rfl, hb1⟩
    have HX1 : Hid (Below w.heap.size w w1 ∧ SBox w1 w.heap.size st v A la cA X nM cM Y nR cR B ne cB D nc cD) := ⟨hbt HX0.out.1 hb1, HX0.out.2.below hb1⟩
    clear hb1 HX0
    obtain ⟨c0, c1, c2, c3, c4, c5, c6⟩ := HX1.out.2.cells
    go_wp2_with fail
    clear c0 c1 c2 c3 c4 c5 c6
    refine (HG.out _ (HC.out.below HX1.out.1)).mono ?_
    rintro e w2 ⟨rfl, hb2⟩
    have HB2 := Lib.hid (hbt HX1.out.1 hb2)
    clear hb2 HX1 HG
    go_wp2_with fail
    refine (HAW.out _ (HK.out.below HB2.out)).mono ?_
    rintro e w9 ⟨rfl, hb9⟩
    go_wp2
    go_ret
    exact ⟨rfl, hbt HB2.out hb9⟩

end Go.Proofs.YtnbllngljgmebaaDoor
