/-
  What the document's Check, Right and Great of a side answer: for every side of up to 1000 specs and numbers and 300 codes, in every world (Great: for every side).
-/
import Derived.Test.YtnbllngljgmebaaDoorRejText
import Derived.Test.YtnbllngljgmebaaDoorRejLst
import Derived.Test.YtnbllngljgmebaaDoorPackSch
import Derived.Test.YtnbllngljgmebaaDoorPackSpc
import Derived.Test.YtnbllngljgmebaaDoorPackFld
import Derived.Test.YtnbllngljgmebaaDoorPackBase
import Derived.Deep.DeepCutAuto
namespace Go.Proofs.YtnbllngljgmebaaDoor
open Go.RowKit

theorem fnd_neg (no : Int) (l : List Sp) : decide (fndI no 0 l < 0) = !(fndP no l).2 := by
  rcases fnd_rel no l 0 with ⟨h1, h2⟩ | ⟨k, _, h1, h2⟩
  · rw [h1, h2]; rfl
  · rw [h1, h2]; simp
theorem rfind_told (D : Option Addr) (cD : Nat) (C : List Item) (n : Nat) (t : Int) (hn : n ≤ C.length) (hm : C.length ≤ 300) :
    ∃ r : Int, decide (r ≥ 0) = findB (C.take n) t ∧ decide (r < 0) = !findB (C.take n) t ∧ ∀ w, Tlvs w D C → Calls Tryd.prog 34 #[.slice D C.length cD, .int .i64 (n : Int), .int .i64 t] w fun e w' => e = .returned (.int .i64 r) ∧ Below w.heap.size w w' := by
  rcases rfind_any D cD C n t hn hm with ⟨h, i, hi, _, hc⟩ | ⟨h, hc⟩
  · exact ⟨i, by rw [h]; simp, by rw [h]; simp, hc⟩
  · exact ⟨-1, by rw [h]; rfl, by rw [h]; rfl, hc⟩

set_option maxRecDepth 100000 in
set_option maxHeartbeats 25600000 in
theorem rjref_any (st v : Int) (A : Option Addr) (cA : Nat) (sl : List Sp) (X : Option Addr) (nM cM : Nat) (Y : Option Addr) (nR cR : Nat) (B : Option Addr) (cB : Nat) (E : List Int) (D : Option Addr) (cD : Nat) (C : List Item) (w : World) (hA : Spl w A sl) (hE : Ints w B E) (hC : Tlvs w D C) (hl : sl.length ≤ 1000) (hle : E.length ≤ 1000) (hlc : C.length ≤ 300) (hcb : E.length ≤ cB) (hs : ∀ x ∈ C, x.2.size ≤ maxLen) :
    Calls Tryd.prog 12 #[.agg #[.int .i64 st, .int .i64 v, .slice A sl.length cA, .slice X nM cM, .slice Y nR cR, .slice B E.length cB, .slice D C.length cD]] w fun e w' => e = .returned (.tuple #[.int .i64 (rejN st v sl E C).1, .int .i64 (rejN st v sl E C).2.1, .int .i64 (rejN st v sl E C).2.2]) ∧ Below w.heap.size w w' := by
  have HS := Lib.hid (fun W h => sright_any st v A cA sl W h hl)
  have HF := Lib.hid (fun z W h => sreffind_any st v A cA sl z W h hl)
  have HIN : Hid (∀ (k : Nat) (z : Int) W, k ≤ E.length → Ints W B E → Calls Tryd.prog 25 #[.slice B k cB, .int .i64 z] W fun e w' => e = .returned (.bool (decide (z ∈ E.take k))) ∧ W = w') := fun k z W hk hW => by
    have := refIn_any B cB (E.take k) z W (ints_take hW hk) (by simp; omega)
    rw [show (E.take k).length = k by simp; omega] at this
    exact this
  have HFD := Lib.hid (fun (k : Nat) (z : Int) (hk : k ≤ C.length) => rfind_told D cD C k z hk hlc)
  have HCUT := Lib.hid (fun (k : Nat) (hk : k ≤ cB) W => cut_ints B E.length cB k hk W)
  have HNG := Lib.hid (fun z => fnd_neg z sl)
  have HSZ := Lib.hid hs
  have HR1 := Lib.hid (@rej_sch st v sl E C)
  have HR2 := Lib.hid (@rej_39 st v sl E C)
  have HRE := Lib.hid (fun i h1 h2 h3 h4 h5 => @rej_echo st v sl E C i h1 h2 h3 h4 h5)
  have HRC := Lib.hid (fun i h1 h2 h3 h4 h5 h6 => @rej_code st v sl E C i h1 h2 h3 h4 h5 h6)
  have HRT := Lib.hid (@rej_table st v sl E C)
  have HRO := Lib.hid (@rej_ok st v sl E C)
  have hb0 := below_al w (.cells #[.int .i64 st, .int .i64 v, .slice A sl.length cA, .slice X nM cM, .slice Y nR cR, .slice B E.length cB, .slice D C.length cD] 32)
  have HB0 := Lib.hid hb0
  have HX0 : Hid (SBox (w.alloc (.cells #[.int .i64 st, .int .i64 v, .slice A sl.length cA, .slice X nM cM, .slice Y nR cR, .slice B E.length cB, .slice D C.length cD] 32)) w.heap.size st v A sl.length cA X nM cM Y nR cR B E.length cB D C.length cD) := sbox_new
  have HA := Lib.hid (hA.below hb0)
  have HI := Lib.hid (hE.below hb0)
  have HC := Lib.hid (hC.below hb0)
  clear hb0 hA hE hC hs
  generalize hla : sl.length = la at *
  generalize hne : E.length = ne at *
  generalize hnc : C.length = nc at *
  have HLA := Lib.hid hla
  have HNE := Lib.hid hne
  have HNC := Lib.hid hnc
  clear hla hne hnc
  by_cases h1 : (schN st v sl).1 = 0
  · rw [show decide ((schN st v sl).1 = 0) = true from decide_eq_true h1] at HS
    rcases fnd_rel 39 sl 0 with ⟨hp, hi⟩ | ⟨k0, hk0, hi, hp⟩
    · have HR := Lib.hid (HR2.out h1 (by rw [hp]))
      have HF := Lib.hid (fun W h => HF.out 39 W h)
      rw [hi] at HF
      clear hp hi h1 HR1 HR2 HRE HRC HRT HRO HNG HFD HIN HCUT
      go_enter Tryd.func12, Tryd.ntmps12
      go_wp2_with fail
      generalize w.alloc (.cells #[.int .i64 st, .int .i64 v, .slice A la cA, .slice X nM cM, .slice Y nR cR, .slice B ne cB, .slice D nc cD] 32) = U at *
      refine (HS.out _ HA.out).mono ?_
      rintro e w1 ⟨rfl, hb1⟩
      obtain ⟨c0, c1, c2, c3, c4, c5, c6⟩ := (HX0.out.below hb1).cells
      have HB1 := Lib.hid hb1
      clear hb1
      go_wp2_with fail
      clear c0 c1 c2 c3 c4 c5 c6
      refine (HF.out _ (HA.out.below HB1.out)).mono ?_
      rintro e w2 ⟨rfl, hb2⟩
      have HB2 := Lib.hid (hbt HB1.out hb2)
      clear hb2
      go_wp2
      go_ret3
      exact ⟨by rw [HR.out]; rfl, hbt HB0.out HB2.out⟩
    · have hok : (fndP 39 sl).2 = true := by rw [hp]
      have HRE := Lib.hid (fun i h3 h4 h5 => HRE.out i h1 hok h3 h4 h5)
      have HRC := Lib.hid (fun i h3 h4 h5 h6 => HRC.out i h1 hok h3 h4 h5 h6)
      have HRT := Lib.hid (HRT.out h1 hok)
      have HRO := Lib.hid (HRO.out h1 hok)
      have HF1 := Lib.hid (fun W h => HF.out 39 W h)
      rw [hi, Nat.zero_add] at HF1
      have HSA : Hid (∀ u, Spl u A sl → ∃ a n c f lo hi', A = some a ∧ spAt sl k0 = (n, c, f, lo, hi') ∧ u.cell? (a.add (k0 * 5)) = some (.int .i64 n) ∧ u.cell? ⟨(a.add (k0 * 5)).block, (a.add (k0 * 5)).off + 1, none⟩ = some (.int .i64 c) ∧ u.cell? ⟨(a.add (k0 * 5)).block, (a.add (k0 * 5)).off + 2, none⟩ = some (.int .i64 f) ∧ u.cell? ⟨(a.add (k0 * 5)).block, (a.add (k0 * 5)).off + 3, none⟩ = some (.int .i64 lo) ∧ u.cell? ⟨(a.add (k0 * 5)).block, (a.add (k0 * 5)).off + 4, none⟩ = some (.int .i64 hi')) := fun u hu => hu.at_ hk0
      obtain ⟨aS, n, c, f, lo, hi', rfl, hsp, _⟩ := HSA.out _ HA.out
      have HSP : Hid (∀ s, spvS (fndP 39 sl).1 s = spv n c f lo hi' s) := fun s => by rw [hp, hsp]; rfl
      have HSC : Hid (∀ u, Spl u (some aS) sl → u.cell? (aS.add (k0 * 5)) = some (.int .i64 n) ∧ u.cell? ⟨(aS.add (k0 * 5)).block, (aS.add (k0 * 5)).off + 1, none⟩ = some (.int .i64 c) ∧ u.cell? ⟨(aS.add (k0 * 5)).block, (aS.add (k0 * 5)).off + 2, none⟩ = some (.int .i64 f) ∧ u.cell? ⟨(aS.add (k0 * 5)).block, (aS.add (k0 * 5)).off + 3, none⟩ = some (.int .i64 lo) ∧ u.cell? ⟨(aS.add (k0 * 5)).block, (aS.add (k0 * 5)).off + 4, none⟩ = some (.int .i64 hi')) := fun u hu => by
        obtain ⟨a, n', c', f', lo', hi'', ha, hsp', h⟩ := HSA.out u hu
        injection ha with ha
        subst ha
        rw [hsp] at hsp'
        injection hsp' with e1 e2
        injection e2 with e2 e3
        injection e3 with e3 e4
        injection e4 with e4 e5
        subst e1 e2 e3 e4 e5
        exact h
      have HV := Lib.hid (fun s W h => sprefValue_any n c f lo hi' s W h)
      have hk0' : k0 < la := by have := HLA.out; omega
      clear hp hi h1 HR1 HR2 hok hsp HSA hk0
      go_enter Tryd.func12, Tryd.ntmps12
      go_wp2_with fail
      generalize w.alloc (.cells #[.int .i64 st, .int .i64 v, .slice (some aS) la cA, .slice X nM cM, .slice Y nR cR, .slice B ne cB, .slice D nc cD] 32) = U at *
      refine (HS.out _ HA.out).mono ?_
      rintro e w1 ⟨rfl, hb1⟩
      obtain ⟨c0, c1, c2, c3, c4, c5, c6⟩ := (HX0.out.below hb1).cells
      have HB1 := Lib.hid hb1
      clear hb1 HS
      go_wp2_with fail
      clear c0 c1 c2 c3 c4 c5 c6
      refine (HF1.out _ (HA.out.below HB1.out)).mono ?_
      rintro e w2 ⟨rfl, hb2⟩
      have HB2 := Lib.hid (hbt HB1.out hb2)
      clear hb2 HB1 HF1
      have hge : decide ((k0 : Int) < 0) = false := by simp
      go_wp2
      go_loopw [6] (fun i wr => ∃ k : Nat, k ≤ ne ∧ i = .int .i64 (k : Int) ∧ (∀ j, j < k → rjE sl E j = 0) ∧ Below U.heap.size U wr) (fun i _ => ne - (intOf i).toNat)
      case atStart => exact ⟨0, Nat.zero_le _, rfl, fun j hj => by omega, HB2.out⟩
      case round =>
        clear HB2
        obtain ⟨k, hk, rfl, hno, hb⟩ := hrel
        have HNO := Lib.hid hno
        have HB := Lib.hid hb
        have HX := Lib.hid (HX0.out.below hb)
        clear hno hb
        obtain ⟨c0, c1, c2, c3, c4, c5, c6⟩ := HX.out.cells
        by_cases hlt : k < ne
        · have hke : k < E.length := by have := HNE.out; omega
          obtain ⟨aE, rfl, _⟩ := HI.out k hke
          have HEC : Hid (∀ u, Ints u (some aE) E → u.cell? (aE.add k) = some (.int .i64 (E.getD k 0))) := fun u hu => by
            obtain ⟨a, ha, h⟩ := hu k hke
            injection ha with ha
            subst ha
            exact h
          generalize hz : E.getD k 0 = z at *
          have HQ1 := Lib.hid (fun h => @rjE_none sl E k z hz h)
          have HQ2 := Lib.hid (fun h h' => @rjE_39 sl E k z hz h h')
          have HQ3 := Lib.hid (fun h h' h'' => @rjE_twice sl E k z hz h h' h'')
          have HQ4 := Lib.hid (fun h h' h'' => @rjE_ok sl E k z hz h h' h'')
          have HHK := Lib.hid (fun h => HRE.out k hlt HNO.out h)
          have hng := HNG.out z
          have HFZ := Lib.hid (fun W h => HF.out z W h)
          generalize (fndP z sl).2 = ok at *
          generalize fndI z 0 sl = fz at *
          have HCK := Lib.hid (fun W => HIN.out k z W (by omega))
          have hcut := HCUT.out k (by omega)
          generalize decide (z ∈ E.take k) = tw at *
          clear hz hke
          go_wp2_with fail
          clear c0 c1 c2 c3 c4 c5 c6
          refine wp_region_noPanic ?_
          refine wp_region_held_drew (S := (fun u => Below wr.heap.size wr u)) (by kernel_rfl) ((Below.refl _ _).drew) (fun hS => ?_)
          refine gv 0 (v := ?_) (fun u hu => ?_) hS ?_
          rotate_left
          · ((obtain ⟨c0, c1, c2, c3, c4, c5, c6⟩ := (HX.out.below hu).cells; have e0 := HEC.out _ (HI.out.below (hbt HB.out hu))); go_simp; try (with_reducible rfl))
          try simp only [puts]
          refine gv 1 (v := ?_) (fun u hu => ?_) hS ?_
          rotate_left
          · ((obtain ⟨c0, c1, c2, c3, c4, c5, c6⟩ := (HX.out.below hu).cells; have e0 := HEC.out _ (HI.out.below (hbt HB.out hu))); go_simp; try (with_reducible rfl))
          try simp only [puts]
          refine gv 2 (v := ?_) (fun u hu => ?_) hS ?_
          rotate_left
          · ((obtain ⟨c0, c1, c2, c3, c4, c5, c6⟩ := (HX.out.below hu).cells; have e0 := HEC.out _ (HI.out.below (hbt HB.out hu))); go_simp; try (with_reducible rfl))
          try simp only [puts]
          refine gv 3 (v := ?_) (fun u hu => ?_) hS ?_
          rotate_left
          · ((obtain ⟨c0, c1, c2, c3, c4, c5, c6⟩ := (HX.out.below hu).cells; have e0 := HEC.out _ (HI.out.below (hbt HB.out hu))); go_simp; try (with_reducible rfl))
          try simp only [puts]
          refine gv 4 (v := ?_) (fun u hu => ?_) hS ?_
          rotate_left
          · ((obtain ⟨c0, c1, c2, c3, c4, c5, c6⟩ := (HX.out.below hu).cells; have e0 := HEC.out _ (HI.out.below (hbt HB.out hu))); go_simp; try (with_reducible rfl))
          try simp only [puts]
          refine gv 5 (v := ?_) (fun u hu => ?_) hS ?_
          rotate_left
          · ((obtain ⟨c0, c1, c2, c3, c4, c5, c6⟩ := (HX.out.below hu).cells; have e0 := HEC.out _ (HI.out.below (hbt HB.out hu))); go_simp; try (with_reducible rfl))
          try simp only [puts]
          refine gv 6 (v := ?_) (fun u hu => ?_) hS ?_
          rotate_left
          · ((obtain ⟨c0, c1, c2, c3, c4, c5, c6⟩ := (HX.out.below hu).cells; have e0 := HEC.out _ (HI.out.below (hbt HB.out hu))); go_simp; try (with_reducible rfl))
          try simp only [puts]
          refine only_call (i := 7) 33 #[.agg #[.int .i64 st, .int .i64 v, .slice (some aS) la cA], .int .i64 z] rfl (by kernel_rfl) (by rfl) ((HFZ.out _ (HA.out.below (hbt HB.out hS))).mono fun e w' he => ⟨he.1, hbt hS he.2⟩) ?_ ?_
          · (go_simp; try (with_reducible rfl))
          clear hS
          intro w7 hS
          try simp only [puts]
          refine gv 8 (v := ?_) (fun u hu => ?_) hS ?_
          rotate_left
          · ((obtain ⟨c0, c1, c2, c3, c4, c5, c6⟩ := (HX.out.below hu).cells; have e0 := HEC.out _ (HI.out.below (hbt HB.out hu))); go_simp; try (with_reducible rfl))
          try simp only [puts]
          refine wpAnyH_done (by kernel_rfl) (NoPanic.normal ?_) _
          rename World => W1
          have HB1 := Lib.hid (hbt HB.out hS)
          have HX1 := Lib.hid (HX.out.below hS)
          clear hS
          obtain ⟨c0, c1, c2, c3, c4, c5, c6⟩ := HX1.out.cells
          cases ok
          · have HE := Lib.hid (HHK.out (by rw [HQ1.out (by trivial)]; decide))
            rw [HQ1.out (by trivial)] at HE
            have t1 : decide (fz < 0) = true := hng
            clear hng hcut
            go_wp2
            go_ret3
            exact ⟨by rw [HE.out]; rfl, hbt HB0.out HB1.out⟩
          · have t1 : decide (fz < 0) = false := hng
            have e0 := HEC.out _ (HI.out.below HB1.out)
            clear hng
            by_cases h39 : z = 39
            · have HE := Lib.hid (HHK.out (by rw [HQ2.out (by trivial) h39]; decide))
              rw [HQ2.out (by trivial) h39] at HE
              subst h39
              clear hcut
              go_wp2
              go_ret3
              exact ⟨by rw [HE.out]; rfl, hbt HB0.out HB1.out⟩
            · have h39' : (z == 39) = false := by simpa using h39
              have HS3 := Lib.hid (HQ3.out (by trivial) h39)
              have HS4 := Lib.hid (HQ4.out (by trivial) h39)
              clear h39 HQ1 HQ2 HQ3 HQ4
              go_wp2_with fail
              clear c0 c1 c2 c3 c4 c5 c6 e0
              refine wp_region_noPanic ?_
              refine wp_region_held_drew (S := (fun u => Below W1.heap.size W1 u)) (by kernel_rfl) ((Below.refl _ _).drew) (fun hS => ?_)
              refine gv 0 (v := ?_) (fun u hu => ?_) hS ?_
              rotate_left
              · ((obtain ⟨c0, c1, c2, c3, c4, c5, c6⟩ := (HX1.out.below hu).cells; have e0 := HEC.out _ (HI.out.below (hbt HB1.out hu))); go_simp; try (with_reducible rfl))
              try simp only [puts]
              refine gv 1 (v := ?_) (fun u hu => ?_) hS ?_
              rotate_left
              · ((obtain ⟨c0, c1, c2, c3, c4, c5, c6⟩ := (HX1.out.below hu).cells; have e0 := HEC.out _ (HI.out.below (hbt HB1.out hu))); go_simp; try (with_reducible rfl))
              try simp only [puts]
              refine gv 2 (v := ?_) (fun u hu => ?_) hS ?_
              rotate_left
              · ((obtain ⟨c0, c1, c2, c3, c4, c5, c6⟩ := (HX1.out.below hu).cells; have e0 := HEC.out _ (HI.out.below (hbt HB1.out hu))); go_simp; try (with_reducible rfl))
              try simp only [puts]
              refine gv 3 (v := ?_) (fun u hu => ?_) hS ?_
              rotate_left
              · ((obtain ⟨c0, c1, c2, c3, c4, c5, c6⟩ := (HX1.out.below hu).cells; have e0 := HEC.out _ (HI.out.below (hbt HB1.out hu))); go_simp; try (with_reducible rfl))
              try simp only [puts]
              refine gv 4 (v := ?_) (fun u hu => ?_) hS ?_
              rotate_left
              · ((obtain ⟨c0, c1, c2, c3, c4, c5, c6⟩ := (HX1.out.below hu).cells; have e0 := HEC.out _ (HI.out.below (hbt HB1.out hu))); go_simp; try (with_reducible rfl))
              try simp only [puts]
              refine gv 5 (v := ?_) (fun u hu => ?_) hS ?_
              rotate_left
              · ((obtain ⟨c0, c1, c2, c3, c4, c5, c6⟩ := (HX1.out.below hu).cells; have e0 := HEC.out _ (HI.out.below (hbt HB1.out hu))); go_simp; try (with_reducible rfl))
              try simp only [puts]
              refine gv 6 (v := ?_) (fun u hu => ?_) hS ?_
              rotate_left
              · ((obtain ⟨c0, c1, c2, c3, c4, c5, c6⟩ := (HX1.out.below hu).cells; have e0 := HEC.out _ (HI.out.below (hbt HB1.out hu))); go_simp; try (with_reducible rfl))
              try simp only [puts]
              refine gv 7 (v := ?_) (fun u hu => ?_) hS ?_
              rotate_left
              · ((obtain ⟨c0, c1, c2, c3, c4, c5, c6⟩ := (HX1.out.below hu).cells; have e0 := HEC.out _ (HI.out.below (hbt HB1.out hu))); go_simp; try (with_reducible rfl))
              try simp only [puts]
              refine gv 8 (v := ?_) (fun u hu => ?_) hS ?_
              rotate_left
              · ((obtain ⟨c0, c1, c2, c3, c4, c5, c6⟩ := (HX1.out.below hu).cells; have e0 := HEC.out _ (HI.out.below (hbt HB1.out hu))); go_simp; try (with_reducible rfl))
              try simp only [puts]
              refine only_call (i := 9) 25 #[.slice (some aE) k cB, .int .i64 z] rfl (by kernel_rfl) (by rfl) ((HCK.out _ (HI.out.below (hbt HB1.out hS))).mono fun e w' he => ⟨he.1, he.2 ▸ hS⟩) ?_ ?_
              · (go_simp; try (with_reducible rfl))
              clear hS
              intro w9 hS
              try simp only [puts]
              refine wpAnyH_done (by kernel_rfl) (NoPanic.normal ?_) _
              rename World => W2
              have HB2 := Lib.hid (hbt HB1.out hS)
              clear hS hcut
              cases tw
              · have HE := Lib.hid (HS4.out (by trivial))
                go_wp2
                go_roundw
                case rel =>
                  refine ⟨k + 1, by omega, by go_num, fun j hj => ?_, HB2.out⟩
                  rcases Nat.lt_or_ge j k with h | h
                  · exact HNO.out j h
                  · obtain rfl : j = k := by omega
                    exact HE.out
                case measure => simp [intOf]; omega
              · have HE := Lib.hid (HHK.out (by rw [HS3.out (by trivial)]; decide))
                rw [HS3.out (by trivial)] at HE
                go_wp2
                go_ret3
                exact ⟨by rw [HE.out]; rfl, hbt HB0.out HB2.out⟩
        · have hke : k = ne := by omega
          subst hke
          have HALL : Hid (∀ j, j < k → rjE sl E j = 0) := fun j hj => HNO.out j hj
          have HRC := Lib.hid (fun i h4 h5 h6 => HRC.out i HALL.out h4 h5 h6)
          have HRT := Lib.hid (HRT.out HALL.out)
          have HRO := Lib.hid (HRO.out HALL.out)
          clear HRE HNO HIN HCUT HNG hlt hk HALL
          go_wp2
          clear c0 c1 c2 c3 c4 c5 c6
          go_loopw [7] (fun i wq => ∃ q : Nat, q ≤ nc ∧ i = .int .i64 (q : Int) ∧ (∀ j, j < q → rjC sl C j = 0) ∧ Below U.heap.size U wq) (fun i _ => nc - (intOf i).toNat)
          case atStart => exact ⟨0, Nat.zero_le _, rfl, fun j hj => by omega, HB.out⟩
          case round =>
            clear HB HX
            obtain ⟨q, hq, rfl, hno, hb⟩ := hrel
            have HNO := Lib.hid hno
            have HB := Lib.hid hb
            have HX := Lib.hid (HX0.out.below hb)
            clear hno hb
            obtain ⟨c0, c1, c2, c3, c4, c5, c6⟩ := HX.out.cells
            by_cases hlt : q < nc
            · have hql : q < C.length := by have := HNC.out; omega
              obtain ⟨aC, z, s, rfl, hx, _, _⟩ := HC.out.at_ hql
              have HCC : Hid (∀ u, Tlvs u (some aC) C → u.cell? (aC.add (q * 2)) = some (.int .i64 z) ∧ u.cell? ⟨(aC.add (q * 2)).block, (aC.add (q * 2)).off + 1, none⟩ = some (.string s)) := fun u hu => by
                obtain ⟨a, z', s', ha, hx', h⟩ := hu.at_ hql
                injection ha with ha
                subst ha
                rw [hx] at hx'
                injection hx' with e1 e2
                subst e1 e2
                exact h
              have hsz := HSZ.out (itemAt C q) (by rw [itemAt_get hql]; exact List.getElem_mem hql)
              rw [hx] at hsz
              have HQ1 := Lib.hid (fun h => @rjC_range sl C q z s hx h)
              have HQ2 := Lib.hid (fun h h' => @rjC_twice sl C q z s hx h h')
              have HQ3 := Lib.hid (fun h h' => (@rjC_value sl C q z s hx h h').trans (HSP.out s))
              have HHK := Lib.hid (fun h => HRC.out q hlt HNO.out h)
              have HV1 := Lib.hid (fun W => HV.out s W hsz)
              obtain ⟨r, hr1, hr2, hrc⟩ := HFD.out q z (by omega)
              have HFR := Lib.hid hrc
              clear hx hsz hql hr2 hrc
              generalize spv n c f lo hi' s = ve at *
              generalize findB (C.take q) z = tw at *
              obtain ⟨d0, d1⟩ := HCC.out _ (HC.out.below HB.out)
              by_cases h1 : z < 0 ∨ 16 < z
              · have HE := Lib.hid (HHK.out (by rw [HQ1.out h1]; decide))
                rw [HQ1.out h1] at HE
                by_cases h0 : z < 0
                · have t0 : decide (z < 0) = true := by simpa using h0
                  clear h1 h0 hr1
                  go_wp2
                  go_ret3
                  exact ⟨by rw [HE.out]; rfl, hbt HB0.out HB.out⟩
                · have t0 : decide (z < 0) = false := by simpa using h0
                  have t1 : decide (z > 16) = true := by simp; omega
                  clear h1 h0 hr1
                  go_wp2
                  go_ret3
                  exact ⟨by rw [HE.out]; rfl, hbt HB0.out HB.out⟩
              · have t0 : decide (z < 0) = false := by simp; omega
                have t1 : decide (z > 16) = false := by simp; omega
                have HS2 := Lib.hid (HQ2.out h1)
                have HS3 := Lib.hid (HQ3.out h1)
                clear h1 HQ1 HQ2 HQ3
                go_wp2_with fail
                clear c0 c1 c2 c3 c4 c5 c6 d0 d1
                refine wp_region_noPanic ?_
                refine wp_region_held_drew (S := (fun u => Below wr.heap.size wr u)) (by kernel_rfl) ((Below.refl _ _).drew) (fun hS => ?_)
                refine gv 0 (v := ?_) (fun u hu => ?_) hS ?_
                rotate_left
                · ((obtain ⟨c0, c1, c2, c3, c4, c5, c6⟩ := (HX.out.below hu).cells; obtain ⟨d0, d1⟩ := HCC.out _ (HC.out.below (hbt HB.out hu))); go_simp; try (with_reducible rfl))
                try simp only [puts]
                refine gv 1 (v := ?_) (fun u hu => ?_) hS ?_
                rotate_left
                · ((obtain ⟨c0, c1, c2, c3, c4, c5, c6⟩ := (HX.out.below hu).cells; obtain ⟨d0, d1⟩ := HCC.out _ (HC.out.below (hbt HB.out hu))); go_simp; try (with_reducible rfl))
                try simp only [puts]
                refine gv 2 (v := ?_) (fun u hu => ?_) hS ?_
                rotate_left
                · ((obtain ⟨c0, c1, c2, c3, c4, c5, c6⟩ := (HX.out.below hu).cells; obtain ⟨d0, d1⟩ := HCC.out _ (HC.out.below (hbt HB.out hu))); go_simp; try (with_reducible rfl))
                try simp only [puts]
                refine gv 3 (v := ?_) (fun u hu => ?_) hS ?_
                rotate_left
                · ((obtain ⟨c0, c1, c2, c3, c4, c5, c6⟩ := (HX.out.below hu).cells; obtain ⟨d0, d1⟩ := HCC.out _ (HC.out.below (hbt HB.out hu))); go_simp; try (with_reducible rfl))
                try simp only [puts]
                refine gv 4 (v := ?_) (fun u hu => ?_) hS ?_
                rotate_left
                · ((obtain ⟨c0, c1, c2, c3, c4, c5, c6⟩ := (HX.out.below hu).cells; obtain ⟨d0, d1⟩ := HCC.out _ (HC.out.below (hbt HB.out hu))); go_simp; try (with_reducible rfl))
                try simp only [puts]
                refine gv 5 (v := ?_) (fun u hu => ?_) hS ?_
                rotate_left
                · ((obtain ⟨c0, c1, c2, c3, c4, c5, c6⟩ := (HX.out.below hu).cells; obtain ⟨d0, d1⟩ := HCC.out _ (HC.out.below (hbt HB.out hu))); go_simp; try (with_reducible rfl))
                try simp only [puts]
                refine gv 6 (v := ?_) (fun u hu => ?_) hS ?_
                rotate_left
                · ((obtain ⟨c0, c1, c2, c3, c4, c5, c6⟩ := (HX.out.below hu).cells; obtain ⟨d0, d1⟩ := HCC.out _ (HC.out.below (hbt HB.out hu))); go_simp; try (with_reducible rfl))
                try simp only [puts]
                refine gv 7 (v := ?_) (fun u hu => ?_) hS ?_
                rotate_left
                · ((obtain ⟨c0, c1, c2, c3, c4, c5, c6⟩ := (HX.out.below hu).cells; obtain ⟨d0, d1⟩ := HCC.out _ (HC.out.below (hbt HB.out hu))); go_simp; try (with_reducible rfl))
                try simp only [puts]
                refine gv 8 (v := ?_) (fun u hu => ?_) hS ?_
                rotate_left
                · ((obtain ⟨c0, c1, c2, c3, c4, c5, c6⟩ := (HX.out.below hu).cells; obtain ⟨d0, d1⟩ := HCC.out _ (HC.out.below (hbt HB.out hu))); go_simp; try (with_reducible rfl))
                try simp only [puts]
                refine only_call (i := 9) 34 #[.slice (some aC) nc cD, .int .i64 (q : Int), .int .i64 z] rfl (by kernel_rfl) (by rfl) ((HFR.out _ (HC.out.below (hbt HB.out hS))).mono fun e w' he => ⟨he.1, hbt hS he.2⟩) ?_ ?_
                · (go_simp; try (with_reducible rfl))
                clear hS
                intro w9 hS
                try simp only [puts]
                refine gv 10 (v := ?_) (fun u hu => ?_) hS ?_
                rotate_left
                · ((obtain ⟨c0, c1, c2, c3, c4, c5, c6⟩ := (HX.out.below hu).cells; obtain ⟨d0, d1⟩ := HCC.out _ (HC.out.below (hbt HB.out hu))); go_simp; try (with_reducible rfl))
                try simp only [puts]
                refine wpAnyH_done (by kernel_rfl) (NoPanic.normal ?_) _
                rename World => W1
                have HB1 := Lib.hid (hbt HB.out hS)
                have HX1 := Lib.hid (HX.out.below hS)
                clear hS
                cases tw
                · have HR3 := Lib.hid (HS3.out (by trivial))
                  obtain ⟨c0, c1, c2, c3, c4, c5, c6⟩ := HX1.out.cells
                  go_wp2_with fail
                  clear c0 c1 c2 c3 c4 c5 c6
                  refine wp_region_noPanic ?_
                  refine wp_region_held_drew (S := (fun u => Below W1.heap.size W1 u)) (by kernel_rfl) ((Below.refl _ _).drew) (fun hS => ?_)
                  refine gv 0 (v := ?_) (fun u hu => ?_) hS ?_
                  rotate_left
                  · ((obtain ⟨c0, c1, c2, c3, c4, c5, c6⟩ := (HX1.out.below hu).cells; obtain ⟨d0, d1⟩ := HCC.out _ (HC.out.below (hbt HB1.out hu)); obtain ⟨x0, x1, x2, x3, x4⟩ := HSC.out _ (HA.out.below (hbt HB1.out hu))); go_simp; try (with_reducible rfl))
                  try simp only [puts]
                  refine gv 1 (v := ?_) (fun u hu => ?_) hS ?_
                  rotate_left
                  · ((obtain ⟨c0, c1, c2, c3, c4, c5, c6⟩ := (HX1.out.below hu).cells; obtain ⟨d0, d1⟩ := HCC.out _ (HC.out.below (hbt HB1.out hu)); obtain ⟨x0, x1, x2, x3, x4⟩ := HSC.out _ (HA.out.below (hbt HB1.out hu))); go_simp; try (with_reducible rfl))
                  try simp only [puts]
                  refine gv 2 (v := ?_) (fun u hu => ?_) hS ?_
                  rotate_left
                  · ((obtain ⟨c0, c1, c2, c3, c4, c5, c6⟩ := (HX1.out.below hu).cells; obtain ⟨d0, d1⟩ := HCC.out _ (HC.out.below (hbt HB1.out hu)); obtain ⟨x0, x1, x2, x3, x4⟩ := HSC.out _ (HA.out.below (hbt HB1.out hu))); go_simp; try (with_reducible rfl))
                  try simp only [puts]
                  refine gv 3 (v := ?_) (fun u hu => ?_) hS ?_
                  rotate_left
                  · ((obtain ⟨c0, c1, c2, c3, c4, c5, c6⟩ := (HX1.out.below hu).cells; obtain ⟨d0, d1⟩ := HCC.out _ (HC.out.below (hbt HB1.out hu)); obtain ⟨x0, x1, x2, x3, x4⟩ := HSC.out _ (HA.out.below (hbt HB1.out hu))); go_simp; try (with_reducible rfl))
                  try simp only [puts]
                  refine gv 4 (v := ?_) (fun u hu => ?_) hS ?_
                  rotate_left
                  · ((obtain ⟨c0, c1, c2, c3, c4, c5, c6⟩ := (HX1.out.below hu).cells; obtain ⟨d0, d1⟩ := HCC.out _ (HC.out.below (hbt HB1.out hu)); obtain ⟨x0, x1, x2, x3, x4⟩ := HSC.out _ (HA.out.below (hbt HB1.out hu))); go_simp; try (with_reducible rfl))
                  try simp only [puts]
                  refine gv 5 (v := ?_) (fun u hu => ?_) hS ?_
                  rotate_left
                  · ((obtain ⟨c0, c1, c2, c3, c4, c5, c6⟩ := (HX1.out.below hu).cells; obtain ⟨d0, d1⟩ := HCC.out _ (HC.out.below (hbt HB1.out hu)); obtain ⟨x0, x1, x2, x3, x4⟩ := HSC.out _ (HA.out.below (hbt HB1.out hu))); go_simp; try (with_reducible rfl))
                  try simp only [puts]
                  refine gv 6 (v := ?_) (fun u hu => ?_) hS ?_
                  rotate_left
                  · ((obtain ⟨c0, c1, c2, c3, c4, c5, c6⟩ := (HX1.out.below hu).cells; obtain ⟨d0, d1⟩ := HCC.out _ (HC.out.below (hbt HB1.out hu)); obtain ⟨x0, x1, x2, x3, x4⟩ := HSC.out _ (HA.out.below (hbt HB1.out hu))); go_simp; try (with_reducible rfl))
                  try simp only [puts]
                  refine gv 7 (v := ?_) (fun u hu => ?_) hS ?_
                  rotate_left
                  · ((obtain ⟨c0, c1, c2, c3, c4, c5, c6⟩ := (HX1.out.below hu).cells; obtain ⟨d0, d1⟩ := HCC.out _ (HC.out.below (hbt HB1.out hu)); obtain ⟨x0, x1, x2, x3, x4⟩ := HSC.out _ (HA.out.below (hbt HB1.out hu))); go_simp; try (with_reducible rfl))
                  try simp only [puts]
                  refine gv 8 (v := ?_) (fun u hu => ?_) hS ?_
                  rotate_left
                  · ((obtain ⟨c0, c1, c2, c3, c4, c5, c6⟩ := (HX1.out.below hu).cells; obtain ⟨d0, d1⟩ := HCC.out _ (HC.out.below (hbt HB1.out hu)); obtain ⟨x0, x1, x2, x3, x4⟩ := HSC.out _ (HA.out.below (hbt HB1.out hu))); go_simp; try (with_reducible rfl))
                  try simp only [puts]
                  refine gv 9 (v := ?_) (fun u hu => ?_) hS ?_
                  rotate_left
                  · ((obtain ⟨c0, c1, c2, c3, c4, c5, c6⟩ := (HX1.out.below hu).cells; obtain ⟨d0, d1⟩ := HCC.out _ (HC.out.below (hbt HB1.out hu)); obtain ⟨x0, x1, x2, x3, x4⟩ := HSC.out _ (HA.out.below (hbt HB1.out hu))); go_simp; try (with_reducible rfl))
                  try simp only [puts]
                  refine gv 10 (v := ?_) (fun u hu => ?_) hS ?_
                  rotate_left
                  · ((obtain ⟨c0, c1, c2, c3, c4, c5, c6⟩ := (HX1.out.below hu).cells; obtain ⟨d0, d1⟩ := HCC.out _ (HC.out.below (hbt HB1.out hu)); obtain ⟨x0, x1, x2, x3, x4⟩ := HSC.out _ (HA.out.below (hbt HB1.out hu))); go_simp; try (with_reducible rfl))
                  try simp only [puts]
                  refine gv 11 (v := ?_) (fun u hu => ?_) hS ?_
                  rotate_left
                  · ((obtain ⟨c0, c1, c2, c3, c4, c5, c6⟩ := (HX1.out.below hu).cells; obtain ⟨d0, d1⟩ := HCC.out _ (HC.out.below (hbt HB1.out hu)); obtain ⟨x0, x1, x2, x3, x4⟩ := HSC.out _ (HA.out.below (hbt HB1.out hu))); go_simp; try (with_reducible rfl))
                  try simp only [puts]
                  refine only_call (i := 12) 35 #[.agg #[.int .i64 n, .int .i64 c, .int .i64 f, .int .i64 lo, .int .i64 hi'], .string s] rfl (by kernel_rfl) (by rfl) ((HV1.out _).mono fun e w' he => ⟨he.1, hbt hS he.2⟩) ?_ ?_
                  · (go_simp; try (with_reducible rfl))
                  clear hS
                  intro w12 hS
                  try simp only [puts]
                  refine gv 13 (v := ?_) (fun u hu => ?_) hS ?_
                  rotate_left
                  · ((obtain ⟨c0, c1, c2, c3, c4, c5, c6⟩ := (HX1.out.below hu).cells; obtain ⟨d0, d1⟩ := HCC.out _ (HC.out.below (hbt HB1.out hu)); obtain ⟨x0, x1, x2, x3, x4⟩ := HSC.out _ (HA.out.below (hbt HB1.out hu))); go_simp; try (with_reducible rfl))
                  try simp only [puts]
                  refine wpAnyH_done (by kernel_rfl) (NoPanic.normal ?_) _
                  rename World => W2
                  have HB2 := Lib.hid (hbt HB1.out hS)
                  clear hS
                  by_cases hve : ve = 0
                  · have HE := Lib.hid (HR3.out.trans hve)
                    subst hve
                    go_wp2
                    go_roundw
                    case rel =>
                      refine ⟨q + 1, by omega, by go_num, fun j hj => ?_, HB2.out⟩
                      rcases Nat.lt_or_ge j q with h | h
                      · exact HNO.out j h
                      · obtain rfl : j = q := by omega
                        exact HE.out
                    case measure => simp [intOf]; omega
                  · have tv : (ve != 0) = true := by simpa using hve
                    have HE := Lib.hid (HHK.out (by rw [HR3.out]; exact hve))
                    rw [HR3.out] at HE
                    clear hve
                    go_wp2
                    go_ret3
                    exact ⟨by rw [HE.out]; rfl, hbt HB0.out HB2.out⟩
                · have HE := Lib.hid (HHK.out (by rw [HS2.out (by trivial)]; decide))
                  rw [HS2.out (by trivial)] at HE
                  go_wp2
                  go_ret3
                  exact ⟨by rw [HE.out]; rfl, hbt HB0.out HB1.out⟩
            · have HRT := Lib.hid (HRT.out fun j hj => HNO.out j (by have := HNC.out; omega))
              have HRO := Lib.hid (HRO.out fun j hj => HNO.out j (by have := HNC.out; omega))
              obtain ⟨r, hr1, hr2, hrc⟩ := HFD.out nc 0 (Nat.le_refl _)
              rw [show C.take nc = C by rw [← HNC.out, List.take_length]] at hr1 hr2
              have HFR := Lib.hid hrc
              clear hrc hr1
              generalize findB C 0 = b0 at *
              go_wp2_with fail
              clear c0 c1 c2 c3 c4 c5 c6
              refine (HFR.out _ (HC.out.below HB.out)).mono ?_
              rintro e w3 ⟨rfl, hb3⟩
              have HB3 := Lib.hid (hbt HB.out hb3)
              have HX3 := Lib.hid (HX.out.below hb3)
              clear hb3
              obtain ⟨c0, c1, c2, c3, c4, c5, c6⟩ := HX3.out.cells
              cases b0
              · have HE := Lib.hid (HRT.out (by trivial))
                have t2 : decide (r < 0) = true := hr2
                clear hr2
                go_wp2_with fail
                clear c0 c1 c2 c3 c4 c5 c6
                refine wp_region_noPanic ?_
                refine wp_region_held_drew (S := (fun u => Below w3.heap.size w3 u)) (by kernel_rfl) ((Below.refl _ _).drew) (fun hS => ?_)
                refine gv 0 (v := ?_) (fun u hu => ?_) hS ?_
                rotate_left
                · ((obtain ⟨c0, c1, c2, c3, c4, c5, c6⟩ := (HX3.out.below hu).cells); go_simp; try (with_reducible rfl))
                try simp only [puts]
                refine gv 1 (v := ?_) (fun u hu => ?_) hS ?_
                rotate_left
                · ((obtain ⟨c0, c1, c2, c3, c4, c5, c6⟩ := (HX3.out.below hu).cells); go_simp; try (with_reducible rfl))
                try simp only [puts]
                refine gv 2 (v := ?_) (fun u hu => ?_) hS ?_
                rotate_left
                · ((obtain ⟨c0, c1, c2, c3, c4, c5, c6⟩ := (HX3.out.below hu).cells); go_simp; try (with_reducible rfl))
                try simp only [puts]
                refine gv 3 (v := ?_) (fun u hu => ?_) hS ?_
                rotate_left
                · ((obtain ⟨c0, c1, c2, c3, c4, c5, c6⟩ := (HX3.out.below hu).cells); go_simp; try (with_reducible rfl))
                try simp only [puts]
                refine gv 4 (v := ?_) (fun u hu => ?_) hS ?_
                rotate_left
                · ((obtain ⟨c0, c1, c2, c3, c4, c5, c6⟩ := (HX3.out.below hu).cells); go_simp; try (with_reducible rfl))
                try simp only [puts]
                refine gv 5 (v := ?_) (fun u hu => ?_) hS ?_
                rotate_left
                · ((obtain ⟨c0, c1, c2, c3, c4, c5, c6⟩ := (HX3.out.below hu).cells); go_simp; try (with_reducible rfl))
                try simp only [puts]
                refine wpAnyH_done (by kernel_rfl) (NoPanic.normal ?_) _
                go_wp2
                go_ret3
                exact ⟨by rw [HE.out]; rfl, hbt HB0.out (hbt HB3.out hS)⟩
              · have HE := Lib.hid (HRO.out (by trivial))
                have t2 : decide (r < 0) = false := hr2
                clear hr2 c0 c1 c2 c3 c4 c5 c6
                go_wp2
                go_ret3
                exact ⟨by rw [HE.out]; rfl, hbt HB0.out HB3.out⟩
  · rw [show decide ((schN st v sl).1 = 0) = false from decide_eq_false h1] at HS
    have HR := Lib.hid (HR1.out h1)
    clear h1 HR1 HR2 HRE HRC HRT HRO HNG HFD HIN HCUT HF
    go_enter Tryd.func12, Tryd.ntmps12
    go_wp2_with fail
    generalize w.alloc (.cells #[.int .i64 st, .int .i64 v, .slice A la cA, .slice X nM cM, .slice Y nR cR, .slice B ne cB, .slice D nc cD] 32) = U at *
    refine (HS.out _ HA.out).mono ?_
    rintro e w1 ⟨rfl, hb1⟩
    have HB1 := Lib.hid hb1
    clear hb1
    go_wp2
    go_ret3
    exact ⟨by rw [HR.out]; rfl, hbt HB0.out HB1.out⟩

set_option maxRecDepth 100000 in
set_option maxHeartbeats 3200000 in
theorem rjright_any (st v : Int) (A : Option Addr) (cA : Nat) (sl : List Sp) (X : Option Addr) (nM cM : Nat) (Y : Option Addr) (nR cR : Nat) (B : Option Addr) (cB : Nat) (E : List Int) (D : Option Addr) (cD : Nat) (C : List Item) (w : World) (hA : Spl w A sl) (hE : Ints w B E) (hC : Tlvs w D C) (hl : sl.length ≤ 1000) (hle : E.length ≤ 1000) (hlc : C.length ≤ 300) (hcb : E.length ≤ cB) (hs : ∀ x ∈ C, x.2.size ≤ maxLen) :
    Calls Tryd.prog 20 #[.agg #[.int .i64 st, .int .i64 v, .slice A sl.length cA, .slice X nM cM, .slice Y nR cR, .slice B E.length cB, .slice D C.length cD]] w fun e w' => e = .returned (.bool (decide ((rejN st v sl E C).1 = 0))) ∧ Below w.heap.size w w' := by
  have HR := Lib.hid (fun W h0 h1 h2 => rjref_any st v A cA sl X nM cM Y nR cR B cB E D cD C W h0 h1 h2 hl hle hlc hcb hs)
  have hb0 := below_al w (.cells #[.int .i64 st, .int .i64 v, .slice A sl.length cA, .slice X nM cM, .slice Y nR cR, .slice B E.length cB, .slice D C.length cD] 32)
  have HB0 := Lib.hid hb0
  have HA := Lib.hid (hA.below hb0)
  have HI := Lib.hid (hE.below hb0)
  have HC := Lib.hid (hC.below hb0)
  clear hb0 hA hE hC hs hl hle hlc hcb
  generalize rejN st v sl E C = R at *
  obtain ⟨r1, r2, r3⟩ := R
  generalize sl.length = la at *
  generalize E.length = ne at *
  generalize C.length = nc at *
  go_enter Tryd.func20, Tryd.ntmps20
  go_wp2_with fail
  refine (HR.out _ HA.out HI.out HC.out).mono ?_
  rintro e w1 ⟨rfl, hb1⟩
  have HB1 := Lib.hid (hbt HB0.out hb1)
  clear hb1
  go_wp2
  go_ret
  exact ⟨by congr 2, HB1.out⟩

/-- Is a side more than is played? -/
def rjgB (sl : List Sp) (E : List Int) (C : List Item) : Bool := decide (200 < sl.length) || decide (300 < E.length) || decide (300 < C.length) || longL C
theorem rjg_in {sl : List Sp} {E : List Int} {C : List Item} (h : rjgB sl E C = false) : sl.length ≤ 200 ∧ E.length ≤ 300 ∧ C.length ≤ 300 ∧ longL C = false := by
  unfold rjgB at h
  simp at h
  obtain ⟨⟨⟨h1, h2⟩, h3⟩, h4⟩ := h
  exact ⟨h1, h2, h3, h4⟩

end Go.Proofs.YtnbllngljgmebaaDoor
