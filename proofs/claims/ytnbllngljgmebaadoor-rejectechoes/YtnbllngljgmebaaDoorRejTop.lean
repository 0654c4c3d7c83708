/-
  What the program's Check of a side answers: in every world where the table of kinds reads as it is laid.
-/
import Derived.Test.YtnbllngljgmebaaDoorRejChk
namespace Go.Proofs.YtnbllngljgmebaaDoor
open Go.RowKit

set_option maxRecDepth 100000 in
set_option maxHeartbeats 6400000 in
theorem rjcheck_any (st v : Int) (A : Option Addr) (cA : Nat) (sl : List Sp) (X : Option Addr) (nM cM : Nat) (Y : Option Addr) (nR cR : Nat) (B : Option Addr) (cB : Nat) (E : List Int) (D : Option Addr) (cD : Nat) (C : List Item) (w : World) (hK : Kinds w) (hA : Spl w A sl) (hE : Ints w B E) (hC : Tlvs w D C) (hl : sl.length ≤ 1000) (hle : E.length ≤ 1000) (hlc : C.length ≤ 1000) (hcb : E.length ≤ cB) (hcd : C.length ≤ cD) (hs : ∀ x ∈ C, x.2.size ≤ maxLen) :
    Calls Tryd.prog 10 #[.agg #[.int .i64 st, .int .i64 v, .slice A sl.length cA, .slice X nM cM, .slice Y nR cR, .slice B E.length cB, .slice D C.length cD]] w fun e w' => e = .returned (.tuple #[.int .i64 (rejN st v sl E C).1, .int .i64 (rejN st v sl E C).2.1, .int .i64 (rejN st v sl E C).2.2]) ∧ Below w.heap.size w w' := by
  have HS := Lib.hid (fun W h => schk_any st v A cA sl W h hl)
  have HF := Lib.hid (fun W h => sfind_any st v A cA sl 39 W h hl)
  have HE := Lib.hid (fun W h0 h1 => chkecho_any st v A cA sl B cB E W h0 h1 hl hle hcb)
  have HCD : Hid (∀ n c f lo hi W, (fndP 39 sl).1 = (n, c, f, lo, hi) → Kinds W → Tlvs W D C → Calls Tryd.prog 30 #[.agg #[.int .i64 n, .int .i64 c, .int .i64 f, .int .i64 lo, .int .i64 hi], .slice D C.length cD] W fun e w' => e = .returned (.tuple #[.int .i64 (codesN sl C).1, .int .i64 (codesN sl C).2]) ∧ Below W.heap.size W w') := fun n c f lo hi W e k0 h => chkcodes_any n c f lo hi D cD C sl W k0 h hlc hcd hs e
  have HR1 := Lib.hid (@rej_sch st v sl E C)
  have HR2 := Lib.hid (@rej_39 st v sl E C)
  have HR3 := Lib.hid (@rejN_by st v sl E C)
  have hb0 := below_al w (.cells #[.int .i64 st, .int .i64 v, .slice A sl.length cA, .slice X nM cM, .slice Y nR cR, .slice B E.length cB, .slice D C.length cD] 32)
  have HB0 := Lib.hid hb0
  have HX0 : Hid (SBox (w.alloc (.cells #[.int .i64 st, .int .i64 v, .slice A sl.length cA, .slice X nM cM, .slice Y nR cR, .slice B E.length cB, .slice D C.length cD] 32)) w.heap.size st v A sl.length cA X nM cM Y nR cR B E.length cB D C.length cD) := sbox_new
  have HK := Lib.hid (hK.below hb0)
  have HA := Lib.hid (hA.below hb0)
  have HI := Lib.hid (hE.below hb0)
  have HC := Lib.hid (hC.below hb0)
  clear hb0 hK hA hE hC hl hle hlc hcb hcd hs
  generalize hsc : (schN st v sl) = sc at *
  obtain ⟨sc1, sc2⟩ := sc
  generalize hfp : fndP 39 sl = fp at *
  obtain ⟨⟨n, c, f, lo, hi⟩, ok⟩ := fp
  have HCD := Lib.hid (fun W k0 h => HCD.out n c f lo hi W rfl k0 h)
  have HF : Hid (∀ W, Spl W A sl → Calls Tryd.prog 28 #[.agg #[.int .i64 st, .int .i64 v, .slice A sl.length cA], .int .i64 39] W fun e w' => e = .returned (.tuple #[.agg #[.int .i64 n, .int .i64 c, .int .i64 f, .int .i64 lo, .int .i64 hi], .bool ok]) ∧ Below W.heap.size W w') := HF.out
  generalize rejN st v sl E C = R at *
  generalize echoN sl E = en at *
  generalize codesN sl C = cn at *
  obtain ⟨en1, en2⟩ := en
  obtain ⟨cn1, cn2⟩ := cn
  generalize sl.length = la at *
  generalize E.length = ne at *
  generalize C.length = nc at *
  clear hsc hfp
  go_enter Tryd.func10, Tryd.ntmps10
  go_wp2_with fail
  generalize w.alloc (.cells #[.int .i64 st, .int .i64 v, .slice A la cA, .slice X nM cM, .slice Y nR cR, .slice B ne cB, .slice D nc cD] 32) = U at *
  refine (HS.out _ HA.out).mono ?_
  rintro e w1 ⟨rfl, hb1⟩
  have HX1 := Lib.hid (HX0.out.below hb1)
  have HB1 := Lib.hid hb1
  obtain ⟨c0, c1, c2, c3, c4, c5, c6⟩ := HX1.out.cells
  clear hb1 HS
  by_cases h1 : sc1 = 0
  · subst h1
    clear HR1
    go_wp2_with fail
    clear c0 c1 c2 c3 c4 c5 c6
    refine (HF.out _ (HA.out.below HB1.out)).mono ?_
    rintro e w2 ⟨rfl, hb2⟩
    have hbn := below_al w2 (.cells #[.int .i64 n, .int .i64 c, .int .i64 f, .int .i64 lo, .int .i64 hi] 67)
    have HX2 := Lib.hid (HX1.out.below (hbt hb2 hbn))
    have HB2 := Lib.hid (hbt HB1.out (hbt hb2 hbn))
    have HP2 : Hid ((w2.alloc (.cells #[.int .i64 n, .int .i64 c, .int .i64 f, .int .i64 lo, .int .i64 hi] 67)).heap[w2.heap.size]? = some (.cells #[.int .i64 n, .int .i64 c, .int .i64 f, .int .i64 lo, .int .i64 hi] 67)) := heap_alloc_new _ _
    clear hb2 hbn HX1 HB1 HF
    obtain ⟨c0, c1, c2, c3, c4, c5, c6⟩ := HX2.out.cells
    cases ok
    · have HR := Lib.hid (HR2.out (by trivial) (by trivial))
      clear HR2 HR3
      go_wp2
      go_ret3
      exact ⟨by rw [HR.out]; rfl, hbt HB0.out HB2.out⟩
    · have HR := Lib.hid (HR3.out (by trivial) (by trivial))
      clear HR2 HR3
      go_wp2_with fail
      clear c0 c1 c2 c3 c4 c5 c6
      refine (HE.out _ (HA.out.below HB2.out) (HI.out.below HB2.out)).mono ?_
      rintro e w3 ⟨rfl, hb3⟩
      have HX3 := Lib.hid (HX2.out.below hb3)
      have HP3 := Lib.hid (obj_below HP2.out hb3)
      have HB3 := Lib.hid (hbt HB2.out hb3)
      clear hb3 HX2 HP2 HB2 HE
      obtain ⟨c0, c1, c2, c3, c4, c5, c6⟩ := HX3.out.cells
      obtain ⟨p0, p1, p2, p3, p4⟩ := obj_cells5 HP3.out
      by_cases h3 : en1 = 0
      · subst h3
        have HR := Lib.hid (HR.out.trans (if_neg (by simp)))
        go_wp2_with fail
        clear c0 c1 c2 c3 c4 c5 c6 p0 p1 p2 p3 p4
        refine (HCD.out _ (HK.out.below HB3.out) (HC.out.below HB3.out)).mono ?_
        rintro e w4 ⟨rfl, hb4⟩
        have HB4 := Lib.hid (hbt HB3.out hb4)
        clear hb4
        by_cases h4 : cn1 = 0
        · subst h4
          have HR := Lib.hid (HR.out.trans (if_neg (by simp)))
          go_wp2
          go_ret3
          exact ⟨by rw [HR.out]; rfl, hbt HB0.out HB4.out⟩
        · have HR := Lib.hid (HR.out.trans (if_pos (by simpa using h4)))
          have t4 : (cn1 != 0) = true := by simpa using h4
          clear h4
          go_wp2
          go_ret3
          exact ⟨by rw [HR.out]; rfl, hbt HB0.out HB4.out⟩
      · have HR := Lib.hid (HR.out.trans (if_pos (by simpa using h3)))
        have t3 : (en1 != 0) = true := by simpa using h3
        clear h3 p0 p1 p2 p3 p4
        go_wp2
        go_ret3
        exact ⟨by rw [HR.out]; rfl, hbt HB0.out HB3.out⟩
  · have HR := Lib.hid (HR1.out h1)
    have t1 : (sc1 != 0) = true := by simpa using h1
    clear h1
    go_wp2
    go_ret3
    exact ⟨by rw [HR.out]; rfl, hbt HB0.out HB1.out⟩

end Go.Proofs.YtnbllngljgmebaaDoor
