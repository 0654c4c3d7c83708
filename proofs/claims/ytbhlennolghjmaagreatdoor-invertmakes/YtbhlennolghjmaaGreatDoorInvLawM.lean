/-
  The law InvertMakes: for every map, schemas and message, in every world where the table of kinds reads as it is laid.
-/
import Derived.Test.YtbhlennolghjmaaGreatDoorInvLq
import Derived.Test.YtbhlennolghjmaaGreatDoorXltLm
import Derived.Test.YtbhlennolghjmaaGreatDoorXltTra
import Derived.Test.YtbhlennolghjmaaGreatDoorPackMsg
import Derived.Test.YtbhlennolghjmaaGreatDoorPackRul
namespace Go.Proofs.YtbhlennolghjmaaGreatDoor
open Go.RowKit

theorem vals_all {w : World} {A : Option Addr} {l : List Item} (h : Tlvs w A l) {p : Nat} (hp : p < l.length) : ∃ a no u, A = some a ∧ itemAt l p = (no, u) ∧ ∀ W, Below w.heap.size w W → W.cell? (a.add (p * 2)) = some (.int .i64 no) ∧ W.cell? ⟨(a.add (p * 2)).block, (a.add (p * 2)).off + 1, none⟩ = some (.string u) := by
  obtain ⟨a, no, u, ha, hx, c0, c1⟩ := h.at_ hp
  exact ⟨a, no, u, ha, hx, fun W hW => ⟨(hW.cell (block_lt_of_cell c0)).trans c0, (hW.cell (block_lt_of_cell c1)).trans c1⟩⟩
theorem all_step {l : List Item} {k : Nat} (hk : k < l.length) (f : Item → Bool) : (l.take (k + 1)).all f = ((l.take k).all f && f (itemAt l k)) := by
  rw [List.take_add_one, List.getElem?_eq_getElem hk, List.all_append, itemAt_get hk]
  simp
theorem fault_two {z : Int × Int} (h : decide (z = (0, 0)) = false) (h2 : z.1 = 0 → z.2 = 0) : z.1 ≠ 0 := fun e => by
  rw [decide_eq_false_iff_not] at h
  exact h (Prod.ext e (h2 e))
set_option maxRecDepth 100000 in
set_option maxHeartbeats 25600000 in
theorem imakes_row (X : Option Addr) (cM : Nat) (M : List PairT) (Y : Option Addr) (cR : Nat) (R : List Ru) (st v : Int) (A : Option Addr) (ca : Nat) (a : List Sp) (st' v' : Int) (A' : Option Addr) (cb : Nat) (b : List Sp) (m : ByteArray) (B : Option Addr) (cx : Nat) (l : List Item) (w : World) (hK : Kinds w) (hM : Prs w X M) (hlM : M.length ≤ maxLen) (hfM : Fit2 M) (hcM : M.length ≤ cM) (hR : Rls w Y R) (hlR : R.length ≤ maxLen) (hf3 : Fit3 R) (hA : Spl w A a) (hma : a.length ≤ maxLen) (hB : Spl w A' b) (hmb : b.length ≤ maxLen) (hm : m.size ≤ maxLen) (hI : Tlvs w B l) (_ : l.length ≤ maxLen) (hs : ∀ x ∈ l, x.2.size ≤ maxLen) :
    Calls Tryz.prog 3 #[.agg #[.slice X M.length cM, .slice Y R.length cR], .agg #[.int .i64 st, .int .i64 v, .slice A a.length ca, .int .i64 st', .int .i64 v', .slice A' b.length cb], .agg #[.string m, .slice B l.length cx]] w fun e w' => e = .returned (.bool true) ∧ Below w.heap.size w w' := by
  have HAW := Lib.hid (fun W h => iawake_any W h)
  have HG := Lib.hid (fun W h1 h2 => ilgreat_any X cM M Y cR R st v A a.length ca st' v' A' b.length cb W h1 h2 hlM hlR hfM hf3 hma hmb)
  have HGM := Lib.hid (fun W h => mgreat_any m B cx l W h hs)
  have HQ0 := Lib.hid (lm_new w X M.length cM Y R.length cR st v A a.length ca st' v' A' b.length cb m B l.length cx)
  have HK := Lib.hid hK
  have HM := Lib.hid hM
  have HR := Lib.hid hR
  have HA := Lib.hid hA
  have HB := Lib.hid hB
  have HI := Lib.hid hI
  cases hg : (xgreatB M R || decide (200 < a.length) || decide (200 < b.length))
  · simp only [Bool.or_eq_false_iff, decide_eq_false_iff_not] at hg
    obtain ⟨⟨hg1, hg2⟩, hg3⟩ := hg
    have hf4 := xgreat_four hg1 hf3
    have hgz : (xgreatB M R || decide (200 < a.length) || decide (200 < b.length)) = false := by rw [hg1, decide_eq_false hg2, decide_eq_false hg3]; rfl
    rw [hgz] at HG
    obtain ⟨hM3, hR3, hP3⟩ := xgreat_in hg1
    have hP4 := fun r hr => rgreat_few (hP3 r hr)
    cases hgm : greatM m l
    · rw [hgm] at HGM
      have hl2 := (great_in hgm).2.1
      have HIC := Lib.hid (fun W k0 k1 k2 k3 k4 => icheck_any rchk_any X cM M Y cR R st v A ca a st' v' A' cb b W k0 k1 k2 k3 k4 (by omega) (by omega) hlM hcM hfM hlR hf4)
      have HRM := Lib.hid (fun W k1 k2 => mrcheck_any st v A ca a m B cx l W k1 k2 (by omega) (by omega) hs hm)
      have HTR := Lib.hid (fun W k0 k1 k2 k3 k4 k5 => xtrans_any rchk_any rapp_any X cM M Y cR R st v A ca a st' v' A' cb b m B cx l W k0 k1 k2 k3 k4 k5 (by omega) (by omega) hlM hcM hlR hf4 (by omega) hs)
      have HE0 : Hid ((xltT st v a st' v' b M R m l).2.2.1 = 0 → (xltT st v a st' v' b M R m l).2.2.2 = 0) := by
        show _ → _
        rcases xt_cases (st := st) (v := v) (a := a) (st' := st') (v' := v') (b := b) (M := M) (R := R) (m := m) (l := l) with ⟨k, hk, hT⟩ | ⟨h1, h2, h3, h4⟩
        · rw [hT]; exact fun e => absurd e hk
        · rw [xt_ok h1 h2 h3 h4]; exact fun _ => rfl
      have HMK : Hid (invB st v a st' v' b M R = true → (msgN st v a m l).1 = 0 → decide ((xltT st v a st' v' b M R m l).2.2 = (0, 0)) = ((M.any fun p => decide (p.1 = m)) && l.all fun x => ruledN x R)) := fun h1 h2 => inv_makes h1 (msgN_told h2)
      have HM0 : Hid ((msgN st v a m l).1 = 0 → (msgN st v a m l).2 = 0) := fun h => by rw [msgN_told h]
      have HFP : Hid (∀ r ∈ R, r.2.2.2.2.length ≤ 300) := hP4
      generalize invB st v a st' v' b M R = Z at *
      generalize (msgN st v a m l).1 = y1 at *
      generalize (msgN st v a m l).2 = y2 at *
      generalize xltT st v a st' v' b M R m l = T at *
      obtain ⟨t1, TL, e1, e2⟩ := T
      dsimp only at HTR HE0 HMK
      have hMn : M.length ≤ 300 := hM3
      have hRn : R.length ≤ 300 := hR3
      clear hK hM hR hA hB hlM hfM hcM hlR hf3 hma hmb hI hm hs hg1 hg2 hg3 hgz hf4 hM3 hR3 hP3 hP4 hgm
      generalize hlm : M.length = n at *
      have HLM := Lib.hid hlm
      clear hlm
      generalize hlr : R.length = nr at *
      have HLR := Lib.hid hlr
      clear hlr
      generalize a.length = la at *
      generalize b.length = lb at *
      generalize hlx : l.length = lx at *
      have HLX := Lib.hid hlx
      clear hlx
      generalize TL.length = tn at *
      go_enter Tryz.func3, Tryz.ntmps3
      go_wp2_with fail
      generalize ((w.alloc (.cells #[.slice X n cM, .slice Y nr cR] 25)).alloc (.cells #[.int .i64 st, .int .i64 v, .slice A la ca, .int .i64 st', .int .i64 v', .slice A' lb cb] 29)).alloc (.cells #[.string m, .slice B lx cx] 32) = U at *
      refine (HAW.out _ (HK.out.below HQ0.out.1.1)).mono ?_
      rintro e w1 ⟨rfl, hb1⟩
      have HQ1 := Lib.hid (HQ0.out.below hb1)
      clear hb1 HQ0
      obtain ⟨⟨m0, m1⟩, a0, a1, a2, b0, b1, b2⟩ := HQ1.out.1.cells
      go_wp2_with fail
      clear m0 m1 a0 a1 a2 b0 b1 b2
      refine (HG.out _ (HM.out.below HQ1.out.1.1) (HR.out.below HQ1.out.1.1)).mono ?_
      rintro e w2 ⟨rfl, hb2⟩
      have HQ2 := Lib.hid (HQ1.out.below hb2)
      clear hb2 HQ1 HG
      obtain ⟨x0, x1, _, _⟩ := obj_cells HQ2.out.2
      go_wp2_with fail
      clear x0 x1
      refine (HGM.out _ (HI.out.below HQ2.out.1.1)).mono ?_
      rintro e w3 ⟨rfl, hb3⟩
      have HQ3 := Lib.hid (HQ2.out.below hb3)
      clear hb3 HQ2 HGM
      obtain ⟨⟨m0, m1⟩, a0, a1, a2, b0, b1, b2⟩ := HQ3.out.1.cells
      go_wp2_with fail
      clear m0 m1 a0 a1 a2 b0 b1 b2
      refine (HIC.out _ (HK.out.below HQ3.out.1.1) (HM.out.below HQ3.out.1.1) (HR.out.below HQ3.out.1.1) (HA.out.below HQ3.out.1.1) (HB.out.below HQ3.out.1.1)).mono ?_
      rintro e w4 ⟨rfl, hb4⟩
      have HQ4 := Lib.hid (HQ3.out.below hb4)
      clear hb4 HQ3 HIC
      cases Z
      · go_wp2_with fail
        refine (HAW.out _ (HK.out.below HQ4.out.1.1)).mono ?_
        rintro e w9 ⟨rfl, hb9⟩
        have HQ9 := Lib.hid (HQ4.out.below hb9)
        clear hb9
        go_wp2
        go_ret
        exact ⟨rfl, HQ9.out.1.1⟩
      · have HMJ := Lib.hid (HMK.out rfl)
        clear HMK
        obtain ⟨⟨m0, m1⟩, a0, a1, a2, b0, b1, b2⟩ := HQ4.out.1.cells
        obtain ⟨x0, x1, _, _⟩ := obj_cells HQ4.out.2
        go_wp2_with fail
        clear m0 m1 a0 a1 a2 b0 b1 b2 x0 x1
        refine (HRM.out _ (HA.out.below HQ4.out.1.1) (HI.out.below HQ4.out.1.1)).mono ?_
        rintro e w5 ⟨rfl, hb5⟩
        have HQ5 := Lib.hid (HQ4.out.below hb5)
        clear hb5 HQ4 HRM
        by_cases hy : y1 = 0
        · have hy2 := HM0.out hy
          have HMI := Lib.hid (HMJ.out hy)
          clear HMJ HM0
          subst hy hy2
          obtain ⟨⟨m0, m1⟩, a0, a1, a2, b0, b1, b2⟩ := HQ5.out.1.cells
          go_wp2
          clear m0 m1 a0 a1 a2 b0 b1 b2
          go_loopw [7, 51] (fun s i wr => ∃ q : Nat, q ≤ n ∧ i = .int .i64 (q : Int) ∧ s = .bool ((M.take q).any fun p => decide (p.1 = m)) ∧ LM w X n cM Y nr cR st v A la ca st' v' A' lb cb m B lx cx wr) (fun _ i _ => n - (intOf i).toNat)
          case atStart => exact ⟨0, Nat.zero_le _, rfl, rfl, HQ5.out⟩
          case round =>
            obtain ⟨q, hq, rfl, rfl, hQ⟩ := hrel
            have HQ6 := Lib.hid hQ
            clear hQ HQ5
            by_cases hlt : q < n
            · have hql : q < M.length := by have := HLM.out; omega
              have hst := any_from_step hql m
              obtain ⟨pa, s, t, rfl, hx, hc⟩ := prs_all HM.out hql
              rw [hx] at hst
              have HST := Lib.hid hst
              obtain ⟨c0, c1⟩ := hc _ HQ6.out.1.1
              have hba := below_al wr (.cells #[.string s, .string t] 42)
              have HQ7 := Lib.hid (HQ6.out.below hba)
              have HG7 := Lib.hid (heap_alloc_new wr (.cells #[.string s, .string t] 42))
              clear hst hx hc hql hba HQ6
              generalize ((M.take q).any fun p => decide (p.1 = m)) = pb at *
              go_upto_region 7 with fail
              clear c0 c1
              generalize wr.alloc (.cells #[.string s, .string t] 42) = W7 at *
              generalize wr.heap.size = g7 at *
              cases pb
              · obtain ⟨z0, z1, _, _⟩ := obj_cells HG7.out
                obtain ⟨x0, x1, _, _⟩ := obj_cells HQ7.out.2
                by_cases hsm : s = m
                · subst hsm
                  go_wp2
                  go_roundw
                  case rel => exact ⟨q + 1, by omega, by go_num, by rw [HST.out]; simp, HQ7.out⟩
                  case measure => simp [intOf]; omega
                · have hzt := duo_ne hsm
                  have HSM := Lib.hid hsm
                  clear hsm
                  go_wp2
                  go_roundw
                  case rel => exact ⟨q + 1, by omega, by go_num, by rw [HST.out, decide_eq_false HSM.out]; rfl, HQ7.out⟩
                  case measure => simp [intOf]; omega
              · go_wp2
                go_roundw
                case rel => exact ⟨q + 1, by omega, by go_num, by rw [HST.out]; rfl, HQ7.out⟩
                case measure => simp [intOf]; omega
            · have hqe : M.take q = M := List.take_of_length_le (by have := HLM.out; omega)
              rw [hqe]
              clear hqe
              generalize hpm : (M.any fun p => decide (p.1 = m)) = pm at *
              have HPM := Lib.hid hpm
              clear hpm
              obtain ⟨x0, x1, _, _⟩ := obj_cells HQ6.out.2
              go_wp2
              clear x0 x1
              go_loopw [7, 67] (fun s i wr => ∃ q : Nat, q ≤ lx ∧ i = .int .i64 (q : Int) ∧ s = .bool (pm && (l.take q).all fun x => ruledN x R) ∧ LM w X n cM Y nr cR st v A la ca st' v' A' lb cb m B lx cx wr) (fun _ i _ => lx - (intOf i).toNat)
              case atStart => exact ⟨0, Nat.zero_le _, rfl, by simp, HQ6.out⟩
              case round =>
                rename World => wr2
                obtain ⟨q2, hq2, rfl, rfl, hQ⟩ := hrel
                have HQ8 := Lib.hid hQ
                clear hQ HQ6
                by_cases hlt : q2 < lx
                · have hql : q2 < l.length := by have := HLX.out; omega
                  have hst := all_step hql (fun x => ruledN x R)
                  obtain ⟨xa, no, u, rfl, hx, hc⟩ := vals_all HI.out hql
                  rw [hx] at hst
                  have HST := Lib.hid hst
                  have HLT := Lib.hid hlt
                  obtain ⟨c0, c1⟩ := hc _ HQ8.out.1.1
                  have hba := below_al wr2 (.cells #[.int .i64 no, .string u] 44)
                  have HQ9 := Lib.hid (HQ8.out.below hba)
                  have HG9 := Lib.hid (heap_alloc_new wr2 (.cells #[.int .i64 no, .string u] 44))
                  clear hst hx hc hql hba HQ8
                  generalize ((l.take q2).all fun x => ruledN x R) = al at *
                  generalize hpa : (pm && al) = pa at *
                  have HPA := Lib.hid hpa
                  clear hpa
                  have tlt : decide ((q2 : Int) < (lx : Int)) = true := by simp; omega
                  clear hlt
                  go_upto_region 12 with fail
                  clear c0 c1 tlt
                  generalize wr2.alloc (.cells #[.int .i64 no, .string u] 44) = W9 at *
                  generalize wr2.heap.size = g9 at *
                  obtain ⟨⟨m0, m1⟩, _⟩ := HQ9.out.1.cells
                  go_wp2
                  clear m0 m1
                  go_loopw [12, 74] (fun s i wi => ∃ p : Nat, p ≤ nr ∧ i = .int .i64 (p : Int) ∧ s = .bool (ruledN (no, u) (R.take p)) ∧ LM w X n cM Y nr cR st v A la ca st' v' A' lb cb m (some xa) lx cx wi ∧ wi.heap[g9]? = some (.cells #[.int .i64 no, .string u] 44)) (fun _ i _ => nr - (intOf i).toNat)
                  case atStart => exact ⟨0, Nat.zero_le _, rfl, rfl, HQ9.out, HG9.out⟩
                  case round =>
                    rename World => wi
                    obtain ⟨p, hp, rfl, rfl, hQ, hG⟩ := hrel
                    have HQ10 := Lib.hid hQ
                    have HG10 := Lib.hid hG
                    clear hQ hG HQ9 HG9
                    by_cases hlt : p < nr
                    · have hpl : p < R.length := by have := HLR.out; omega
                      have hst := ruled_step (x := (no, u)) hpl
                      obtain ⟨ra, k, f, t, s, P, D, c, rfl, hx, hc⟩ := rls_all HR.out hpl
                      rw [hx] at hst
                      have HST : Hid (ruledN (no, u) (R.take (p + 1)) = if f = no then decide (k ≠ 5) || P.any fun p => decide (p.1 = u) else ruledN (no, u) (R.take p)) := hst
                      have HPN : Hid (P.length ≤ 300) := by
                        have h := HFP.out (ruAt R p) (by rw [ruAt_get hpl]; exact List.getElem_mem hpl)
                        rw [hx] at h; exact h
                      have HLT2 := Lib.hid hlt
                      obtain ⟨⟨c0, c1, c2, c3, c4⟩, hpr⟩ := hc _ HQ10.out.1.1
                      have hba := below_al wi (.cells #[.int .i64 k, .int .i64 f, .int .i64 t, .string s, .slice D P.length c] 46)
                      have HQ11 := Lib.hid (HQ10.out.below hba)
                      have HG11 := Lib.hid (obj_below HG10.out hba)
                      have HO11 : Hid (RBox (wi.alloc (.cells #[.int .i64 k, .int .i64 f, .int .i64 t, .string s, .slice D P.length c] 46)) wi.heap.size k f t s D P.length c) := heap_alloc_new wi _
                      have HP11 := Lib.hid (hpr.below hba)
                      clear hst hx hc hpl hba hpr HQ10 HG10
                      generalize ruledN (no, u) (R.take p) = rb at *
                      generalize hpl : P.length = pl at *
                      have HPL := Lib.hid hpl
                      clear hpl
                      have tlt : decide ((p : Int) < (nr : Int)) = true := by simp; omega
                      go_upto_region 16 with fail
                      clear c0 c1 c2 c3 c4 tlt
                      generalize wi.alloc (.cells #[.int .i64 k, .int .i64 f, .int .i64 t, .string s, .slice D pl c] 46) = W11 at *
                      generalize wi.heap.size = g11 at *
                      obtain ⟨r0, r1, r2, r3, r4⟩ := obj_cells5 HO11.out
                      obtain ⟨z0, z1, _, _⟩ := obj_cells HG11.out
                      by_cases hf : f = no
                      · rw [if_pos hf] at HST
                        subst hf
                        generalize hkb : (k != 5) = kb
                        have HKB : Hid (decide (k ≠ 5) = kb) := by show _ = _; rw [← hkb]; by_cases h : k = 5 <;> simp [h]
                        rw [HKB.out] at HST
                        clear hlt
                        go_wp2
                        clear r0 r1 r2 r3 r4 z0 z1 hkb
                        go_loopw [12, 89] (fun s i wj => ∃ j : Nat, j ≤ pl ∧ i = .int .i64 (j : Int) ∧ s = .bool (kb || (P.take j).any fun p => decide (p.1 = u)) ∧ LM w X n cM (some ra) nr cR st v A la ca st' v' A' lb cb m (some xa) lx cx wj ∧ wj.heap[g9]? = some (.cells #[.int .i64 f, .string u] 44) ∧ Below W11.heap.size W11 wj) (fun _ i _ => pl - (intOf i).toNat)
                        case atStart => exact ⟨0, Nat.zero_le _, rfl, by simp, HQ11.out, HG11.out, Below.refl _ _⟩
                        case round =>
                          rename World => wj
                          obtain ⟨j, hj, rfl, rfl, hQ, hG, hb⟩ := hrel
                          have HQ12 := Lib.hid hQ
                          have HG12 := Lib.hid hG
                          have HB12 := Lib.hid hb
                          clear hQ hG hb HQ11 HG11
                          have hpz := HPN.out
                          by_cases hlt : j < pl
                          · have hjl : j < P.length := by have := HPL.out; omega
                            have hst2 := any_from_step hjl u
                            obtain ⟨da, s2, t2, rfl, hx, hc⟩ := prs_all HP11.out hjl
                            rw [hx] at hst2
                            have HSU := Lib.hid hst2
                            obtain ⟨c0, c1⟩ := hc _ HB12.out
                            have hba := below_al wj (.cells #[.string s2, .string t2] 42)
                            have HQ13 := Lib.hid (HQ12.out.below hba)
                            have HG13 := Lib.hid (obj_below HG12.out hba)
                            have HB13 := Lib.hid (hbt HB12.out hba)
                            have HN13 := Lib.hid (heap_alloc_new wj (.cells #[.string s2, .string t2] 42))
                            clear hst2 hx hc hjl hba HQ12 HG12 HB12
                            generalize ((P.take j).any fun p => decide (p.1 = u)) = ab at *
                            generalize hkq : (kb || ab) = kq at *
                            have HKQ := Lib.hid hkq
                            clear hkq
                            go_upto_region 21 with fail
                            clear c0 c1
                            generalize wj.alloc (.cells #[.string s2, .string t2] 42) = W13 at *
                            generalize wj.heap.size = g13 at *
                            cases kq
                            · obtain ⟨y0, y1, _, _⟩ := obj_cells HN13.out
                              obtain ⟨z0, z1, _, _⟩ := obj_cells HG13.out
                              by_cases hsu : s2 = u
                              · subst hsu
                                go_wp2
                                go_roundw
                                case rel => exact ⟨j + 1, by omega, by go_num, by rw [HSU.out]; simp, HQ13.out, HG13.out, HB13.out⟩
                                case measure => simp [intOf]; omega
                              · have hzt := duo_ne hsu
                                have HSN := Lib.hid hsu
                                clear hsu
                                go_wp2
                                go_roundw
                                case rel => exact ⟨j + 1, by omega, by go_num, by rw [HSU.out, decide_eq_false HSN.out, Bool.or_false, HKQ.out], HQ13.out, HG13.out, HB13.out⟩
                                case measure => simp [intOf]; omega
                            · go_wp2
                              go_roundw
                              case rel => exact ⟨j + 1, by omega, by go_num, by rw [HSU.out, ← Bool.or_assoc, HKQ.out]; rfl, HQ13.out, HG13.out, HB13.out⟩
                              case measure => simp [intOf]; omega
                          · have hje : P.take j = P := List.take_of_length_le (by have := HPL.out; omega)
                            rw [hje, ← HST.out]
                            go_wp2
                            go_roundw
                            case rel => exact ⟨p + 1, by have := HLT2.out; omega, by have := HLT2.out; go_num, rfl, HQ12.out, HG12.out⟩
                            case measure => have := HLT2.out; simp [intOf]; omega
                      · rw [if_neg hf] at HST
                        have tf : (f == no) = false := by simpa using hf
                        clear hf
                        go_wp2
                        go_roundw
                        case rel => exact ⟨p + 1, by omega, by go_num, by rw [HST.out], HQ11.out, HG11.out⟩
                        case measure => simp [intOf]; omega
                    · have hpe : R.take p = R := List.take_of_length_le (by have := HLR.out; omega)
                      rw [hpe]
                      clear hpe
                      generalize ruledN (no, u) R = rd at *
                      cases pa
                      · go_wp2
                        go_roundw
                        case rel => exact ⟨q2 + 1, by have := HLT.out; omega, by have := HLT.out; go_num, by rw [HST.out, ← Bool.and_assoc, HPA.out]; rfl, HQ10.out⟩
                        case measure => have := HLT.out; simp [intOf]; omega
                      · go_wp2
                        go_roundw
                        case rel => exact ⟨q2 + 1, by have := HLT.out; omega, by have := HLT.out; go_num, by rw [HST.out, ← Bool.and_assoc, HPA.out]; rfl, HQ10.out⟩
                        case measure => have := HLT.out; simp [intOf]; omega
                · have hqe : l.take q2 = l := List.take_of_length_le (by have := HLX.out; omega)
                  rw [hqe]
                  clear hqe
                  generalize hpl : (pm && l.all fun x => ruledN x R) = pl at *
                  have HZ : Hid (decide ((e1, e2) = ((0 : Int), (0 : Int))) = pl) := HMI.out
                  clear hpl
                  obtain ⟨⟨m0, m1⟩, a0, a1, a2, b0, b1, b2⟩ := HQ8.out.1.cells
                  obtain ⟨x0, x1, _, _⟩ := obj_cells HQ8.out.2
                  go_wp2_with fail
                  clear m0 m1 a0 a1 a2 b0 b1 b2 x0 x1
                  refine (HTR.out _ (HK.out.below HQ8.out.1.1) (HM.out.below HQ8.out.1.1) (HR.out.below HQ8.out.1.1) (HA.out.below HQ8.out.1.1) (HB.out.below HQ8.out.1.1) (HI.out.below HQ8.out.1.1)).mono ?_
                  rintro e w9 ⟨D, cd, rfl, _, hb9⟩
                  have hbm := below_al w9 (.cells #[.string t1, .slice D TL.length cd] 32)
                  have hbf := below_al (w9.alloc (.cells #[.string t1, .slice D TL.length cd] 32)) (.cells #[.int .i64 e1, .int .i64 e2] 39)
                  have HB9 := Lib.hid (hbt HQ8.out.1.1 (hbt hb9 (hbt hbm hbf)))
                  have HF9 : Hid (((w9.alloc (.cells #[.string t1, .slice D TL.length cd] 32)).alloc (.cells #[.int .i64 e1, .int .i64 e2] 39)).heap[w9.heap.size + 1]? = some (.cells #[.int .i64 e1, .int .i64 e2] 39)) := heap_al _ _ _ (by simp)
                  clear hb9 hbm hbf
                  dsimp only
                  go_upto_region 27 with fail
                  obtain ⟨f0, f1, _, _⟩ := obj_cells HF9.out
                  cases pl
                  · have tk : (e1 == 0) = false := by simpa using fault_two (z := (e1, e2)) HZ.out HE0.out
                    go_wp2
                    go_ret
                    exact ⟨rfl, HB9.out⟩
                  · have hz := of_decide_eq_true HZ.out
                    injection hz with hz1 hz2
                    subst hz1 hz2
                    go_wp2
                    go_ret
                    exact ⟨rfl, HB9.out⟩
        · have tk : (y1 == 0) = false := by simpa using hy
          clear hy
          go_wp2_with fail
          refine (HAW.out _ (HK.out.below HQ5.out.1.1)).mono ?_
          rintro e w9 ⟨rfl, hb9⟩
          have HQ9 := Lib.hid (HQ5.out.below hb9)
          clear hb9
          go_wp2
          go_ret
          exact ⟨rfl, HQ9.out.1.1⟩
    · rw [hgm] at HGM
      clear hK hM hR hA hB hlM hfM hcM hlR hf3 hma hmb hI hm hs hg1 hg2 hg3 hgz hf4 hgm hM3 hR3 hP3 hP4
      generalize M.length = n at *
      generalize R.length = nr at *
      generalize a.length = la at *
      generalize b.length = lb at *
      generalize l.length = lx at *
      go_enter Tryz.func3, Tryz.ntmps3
      go_wp2_with fail
      generalize ((w.alloc (.cells #[.slice X n cM, .slice Y nr cR] 25)).alloc (.cells #[.int .i64 st, .int .i64 v, .slice A la ca, .int .i64 st', .int .i64 v', .slice A' lb cb] 29)).alloc (.cells #[.string m, .slice B lx cx] 32) = U at *
      refine (HAW.out _ (HK.out.below HQ0.out.1.1)).mono ?_
      rintro e w1 ⟨rfl, hb1⟩
      have HQ1 := Lib.hid (HQ0.out.below hb1)
      clear hb1 HQ0
      obtain ⟨⟨m0, m1⟩, a0, a1, a2, b0, b1, b2⟩ := HQ1.out.1.cells
      go_wp2_with fail
      clear m0 m1 a0 a1 a2 b0 b1 b2
      refine (HG.out _ (HM.out.below HQ1.out.1.1) (HR.out.below HQ1.out.1.1)).mono ?_
      rintro e w2 ⟨rfl, hb2⟩
      have HQ2 := Lib.hid (HQ1.out.below hb2)
      clear hb2 HQ1 HG
      obtain ⟨x0, x1, _, _⟩ := obj_cells HQ2.out.2
      go_wp2_with fail
      clear x0 x1
      refine (HGM.out _ (HI.out.below HQ2.out.1.1)).mono ?_
      rintro e w3 ⟨rfl, hb3⟩
      have HQ3 := Lib.hid (HQ2.out.below hb3)
      clear hb3 HQ2 HGM
      go_wp2_with fail
      refine (HAW.out _ (HK.out.below HQ3.out.1.1)).mono ?_
      rintro e w9 ⟨rfl, hb9⟩
      have HQ9 := Lib.hid (HQ3.out.below hb9)
      clear hb9
      go_wp2
      go_ret
      exact ⟨rfl, HQ9.out.1.1⟩
  · rw [hg] at HG
    clear hK hM hR hA hB hlM hfM hcM hlR hf3 hma hmb hI hm hs hg
    generalize M.length = n at *
    generalize R.length = nr at *
    generalize a.length = la at *
    generalize b.length = lb at *
    generalize l.length = lx at *
    go_enter Tryz.func3, Tryz.ntmps3
    go_wp2_with fail
    generalize ((w.alloc (.cells #[.slice X n cM, .slice Y nr cR] 25)).alloc (.cells #[.int .i64 st, .int .i64 v, .slice A la ca, .int .i64 st', .int .i64 v', .slice A' lb cb] 29)).alloc (.cells #[.string m, .slice B lx cx] 32) = U at *
    refine (HAW.out _ (HK.out.below HQ0.out.1.1)).mono ?_
    rintro e w1 ⟨rfl, hb1⟩
    have HQ1 := Lib.hid (HQ0.out.below hb1)
    clear hb1 HQ0
    obtain ⟨⟨m0, m1⟩, a0, a1, a2, b0, b1, b2⟩ := HQ1.out.1.cells
    go_wp2_with fail
    clear m0 m1 a0 a1 a2 b0 b1 b2
    refine (HG.out _ (HM.out.below HQ1.out.1.1) (HR.out.below HQ1.out.1.1)).mono ?_
    rintro e w2 ⟨rfl, hb2⟩
    have HQ2 := Lib.hid (HQ1.out.below hb2)
    clear hb2 HQ1 HG
    go_wp2_with fail
    refine (HAW.out _ (HK.out.below HQ2.out.1.1)).mono ?_
    rintro e w9 ⟨rfl, hb9⟩
    have HQ9 := Lib.hid (HQ2.out.below hb9)
    clear hb9
    go_wp2
    go_ret
    exact ⟨rfl, HQ9.out.1.1⟩

end Go.Proofs.YtbhlennolghjmaaGreatDoor
