/-
  The program's Check of a rule answers as the document asks, for every rule and schemas of up to 1000 specs, in every world that holds the table of kinds.
-/
import Derived.Test.YthheflgfbdcnlaaGreatDoorRulRef
import Derived.Test.YthheflgfbdcnlaaGreatDoorRulAwk
namespace Go.Proofs.YthheflgfbdcnlaaGreatDoor
open Go.RowKit

set_option maxRecDepth 100000 in
set_option maxHeartbeats 1600000 in
theorem repads_any (n c f lo hi : Int) (w : World) : Calls Tryz.prog 87 #[.agg #[.int .i64 n, .int .i64 c, .int .i64 f, .int .i64 lo, .int .i64 hi]] w fun e w' => e = .returned (.bool ((c == 1) && (f == 1))) ∧ Below w.heap.size w w' := by
  by_cases hc : c = 1
  · subst hc
    go_enter Tryz.func87, Tryz.ntmps87
    go_wp2
    go_ret
    exact ⟨by simp, below_al _ _⟩
  · have tc : (c == 1) = false := by simpa using hc
    rw [tc]
    clear hc
    go_enter Tryz.func87, Tryz.ntmps87
    go_wp2
    go_ret
    exact ⟨rfl, below_al _ _⟩
set_option maxRecDepth 100000 in
set_option maxHeartbeats 3200000 in
theorem rtab_no (B : Option Addr) (cP n : Nat) (P : List PairT) (n1 c1 f1 lo1 hi1 n2 c2 f2 lo2 hi2 : Int) (w : World) (hP : Prs w B P) (hn : P.length = n) (hlP : P.length ≤ maxLen) (hf : Fit2 P) (hz : (tabN P).1 ≠ 0 ∨ P = []) :
    Calls Tryz.prog 88 #[.slice B n cP, .agg #[.int .i64 n1, .int .i64 c1, .int .i64 f1, .int .i64 lo1, .int .i64 hi1], .agg #[.int .i64 n2, .int .i64 c2, .int .i64 f2, .int .i64 lo2, .int .i64 hi2]] w fun e w' => e = .returned (.int .i64 15) ∧ Below w.heap.size w w' := by
  have HT := Lib.hid (fun W h => ccheck_any B cP P W h hlP hf)
  have HS0 := Lib.hid (specs_new w n1 c1 f1 lo1 hi1 n2 c2 f2 lo2 hi2)
  have HP := Lib.hid hP
  rw [hn] at HT
  clear hP hf
  by_cases h1 : (tabN P).1 = 0
  · have hP0 : P = [] := by
      rcases hz with h | h
      · exact absurd h1 h
      · exact h
    have hn0 : n = 0 := by rw [← hn, hP0]; rfl
    subst hn0
    rw [h1] at HT
    generalize (tabN P).2 = y at *
    clear hz h1 hP0 hn hlP
    go_enter Tryz.func88, Tryz.ntmps88
    go_wp2_with fail
    refine (HT.out _ (HP.out.below HS0.out.1)).mono ?_
    rintro e w1 ⟨rfl, hb1⟩
    have HB1 := Lib.hid (hbt HS0.out.1 hb1)
    clear hb1
    go_wp2
    go_ret
    exact ⟨rfl, HB1.out⟩
  · have tz : (((tabN P).1 : Int) != 0) = true := by simp; omega
    generalize (tabN P).1 = x at *
    generalize (tabN P).2 = y at *
    clear hz h1 hn hlP
    go_enter Tryz.func88, Tryz.ntmps88
    go_wp2_with fail
    refine (HT.out _ (HP.out.below HS0.out.1)).mono ?_
    rintro e w1 ⟨rfl, hb1⟩
    have HB1 := Lib.hid (hbt HS0.out.1 hb1)
    clear hb1
    go_wp2
    go_ret
    exact ⟨rfl, HB1.out⟩
set_option maxRecDepth 100000 in
set_option maxHeartbeats 6400000 in
theorem rtab_yes (B : Option Addr) (cP n : Nat) (P : List PairT) (n1 c1 f1 lo1 hi1 n2 c2 f2 lo2 hi2 : Int) (w : World) (hK : Kinds w) (hP : Prs w B P) (hn : P.length = n) (hf : Fit2 P) (hz : (tabN P).1 = 0) (h0 : P ≠ []) :
    Calls Tryz.prog 88 #[.slice B n cP, .agg #[.int .i64 n1, .int .i64 c1, .int .i64 f1, .int .i64 lo1, .int .i64 hi1], .agg #[.int .i64 n2, .int .i64 c2, .int .i64 f2, .int .i64 lo2, .int .i64 hi2]] w fun e w' => e = .returned (.int .i64 (rlT (n1, c1, f1, lo1, hi1) (n2, c2, f2, lo2, hi2) P)) ∧ Below w.heap.size w w' := by
  have hl := (tab_zero.1 hz).1
  have HT := Lib.hid (fun W h => ccheck_any B cP P W h (by unfold maxLen; omega) hf)
  have HS0 := Lib.hid (specs_new w n1 c1 f1 lo1 hi1 n2 c2 f2 lo2 hi2)
  have HP := Lib.hid hP
  have HF := Lib.hid hf
  have HK := Lib.hid hK
  have HLP := Lib.hid hn
  have HW := Lib.hid (fun s W k h => spvalue_any n1 c1 f1 lo1 hi1 s W k h)
  have HW2 := Lib.hid (fun s W k h => spvalue_any n2 c2 f2 lo2 hi2 s W k h)
  have hpos : 0 < n := by
    rw [← hn]
    cases P with
    | nil => exact absurd rfl h0
    | cons p r => simp
  have tn : ((n : Int) == 0) = false := by simp; omega
  rw [hn] at HT hl
  rw [hz] at HT
  generalize (tabN P).2 = y at *
  generalize hR : rlT (n1, c1, f1, lo1, hi1) (n2, c2, f2, lo2, hi2) P = R at *
  have HR0 := Lib.hid hR
  clear hP hf hK hn hz h0 hR
  go_enter Tryz.func88, Tryz.ntmps88
  go_wp2_with fail
  refine (HT.out _ (HP.out.below HS0.out.1)).mono ?_
  rintro e w1 ⟨rfl, hb1⟩
  have HS1 := Lib.hid (HS0.out.below hb1)
  clear hb1 HS0 HT
  go_wp2
  go_loopw [27] (fun i wr => ∃ q : Nat, q ≤ n ∧ i = .int .i64 (q : Int) ∧ Specs w n1 c1 f1 lo1 hi1 n2 c2 f2 lo2 hi2 wr ∧ rlT (n1, c1, f1, lo1, hi1) (n2, c2, f2, lo2, hi2) (P.drop q) = R) (fun i _ => n - (intOf i).toNat)
  case atStart => exact ⟨0, Nat.zero_le _, rfl, HS1.out, HR0.out⟩
  case round =>
    obtain ⟨q, hq, rfl, hS, hrest⟩ := hrel
    have HS2 := Lib.hid hS
    have HR := Lib.hid hrest
    clear hS hrest
    by_cases hlt : q < n
    · have hql : q < P.length := by have := HLP.out; omega
      obtain ⟨pa, x, y', rfl, hxp, hcp⟩ := prs_all HP.out hql
      obtain ⟨z0, z1⟩ := hcp _ HS2.out.1
      have hfz := HF.out.at_ hql
      rw [hxp] at hfz
      have HZ := Lib.hid hfz
      have HD := Lib.hid (drop_duo hql)
      rw [hxp] at HD
      have HX1 := Lib.hid (fun W k => HW.out x W k HZ.out.1)
      have HX2 := Lib.hid (fun W k => HW2.out y' W k HZ.out.2)
      have HV1 := Lib.hid (@rlT_from (n1, c1, f1, lo1, hi1) (n2, c2, f2, lo2, hi2) (x, y') (P.drop (q + 1)))
      have HV2 := Lib.hid (@rlT_to (n1, c1, f1, lo1, hi1) (n2, c2, f2, lo2, hi2) (x, y') (P.drop (q + 1)))
      have HV3 := Lib.hid (@rlT_next (n1, c1, f1, lo1, hi1) (n2, c2, f2, lo2, hi2) (x, y') (P.drop (q + 1)))
      unfold rlV at HV1 HV2 HV3
      dsimp only at HV1 HV2 HV3
      generalize spv n1 c1 f1 lo1 hi1 x = e1 at *
      generalize spv n2 c2 f2 lo2 hi2 y' = e2 at *
      have HS3 := Lib.hid (HS2.out.below (below_al wr (.cells #[.string x, .string y'] 56)))
      have HG3 : Hid ((wr.alloc (.cells #[.string x, .string y'] 56)).heap[wr.heap.size]? = some (.cells #[.string x, .string y'] 56)) := heap_alloc_new _ _
      clear hxp hcp hfz hql HS2
      obtain ⟨⟨s0, s1, s2, s3, s4⟩, t0, t1, t2, t3, t4⟩ := HS3.out.cells
      go_wp2_with fail
      clear s0 s1 s2 s3 s4 t0 t1 t2 t3 t4 z0 z1
      generalize wr.alloc (.cells #[.string x, .string y'] 56) = W3 at *
      refine (HX1.out _ (HK.out.below HS3.out.1)).mono ?_
      rintro e w4 ⟨rfl, hb4⟩
      have HS4 := Lib.hid (HS3.out.below hb4)
      have HG4 := Lib.hid (obj_below HG3.out hb4)
      clear hb4 HS3 HG3
      by_cases he1 : e1 = 0
      · subst he1
        obtain ⟨⟨s0, s1, s2, s3, s4⟩, t0, t1, t2, t3, t4⟩ := HS4.out.cells
        obtain ⟨z0, z1, _, _⟩ := obj_cells HG4.out
        go_wp2_with fail
        clear s0 s1 s2 s3 s4 t0 t1 t2 t3 t4 z0 z1
        refine (HX2.out _ (HK.out.below HS4.out.1)).mono ?_
        rintro e w5 ⟨rfl, hb5⟩
        have HS5 := Lib.hid (HS4.out.below hb5)
        clear hb5
        by_cases he2 : e2 = 0
        · subst he2
          have HY := Lib.hid (HV3.out trivial rfl)
          go_wp2
          go_roundw
          case rel => exact ⟨q + 1, by omega, by go_num, HS5.out, by rw [← HR.out, HD.out, HY.out]⟩
          case measure => simp [intOf]; omega
        · have HY := Lib.hid (HV2.out trivial he2)
          have te : (e2 != 0) = true := by simpa using he2
          clear he2
          go_wp2
          go_ret
          exact ⟨by rw [← HR.out, HD.out, HY.out] <;> rfl, HS5.out.1⟩
      · have HY := Lib.hid (HV1.out he1)
        have te : (e1 != 0) = true := by simpa using he1
        clear he1
        go_wp2
        go_ret
        exact ⟨by rw [← HR.out, HD.out, HY.out] <;> rfl, HS4.out.1⟩
    · have HY : Hid (P.drop q = []) := List.drop_eq_nil_of_le (by have := HLP.out; omega)
      go_wp2
      go_ret
      exact ⟨by rw [← HR.out, HY.out] <;> rfl, HS2.out.1⟩

set_option maxRecDepth 100000 in
set_option maxHeartbeats 1600000 in
theorem rend_out (st v : Int) (A : Option Addr) (l ca : Nat) (f : Int) (w : World) : Calls Tryz.prog 69 #[.agg #[.int .i64 st, .int .i64 v, .slice A l ca], .int .i64 f, .bool true] w fun e w' => e = .returned (.tuple #[.agg #[.int .i64 0, .int .i64 0, .int .i64 0, .int .i64 0, .int .i64 0], .bool (f == 0)]) ∧ Below w.heap.size w w' := by
  generalize hz : (f == 0) = z
  go_enter Tryz.func69, Tryz.ntmps69
  go_wp2
  refine bodyPost_ret (results_cell_row1 rfl _ _ (w.heap.size + 1) _ _ _ _ rfl (heap_al _ _ _ (by simp)) Tryz.underlying84 rfl (by kernel_rfl)) rfl ?_
  exact ⟨rfl, hbt (below_al _ _) (below_al _ _)⟩
set_option maxRecDepth 100000 in
set_option maxHeartbeats 1600000 in
theorem rend_in (st v : Int) (A : Option Addr) (l : List Sp) (ca : Nat) (f : Int) (w : World) (hA : Spl w A l) (hl : l.length ≤ 1000) : Calls Tryz.prog 69 #[.agg #[.int .i64 st, .int .i64 v, .slice A l.length ca], .int .i64 f, .bool false] w fun e w' => e = .returned (.tuple #[.agg #[.int .i64 (fndP f l).1.1, .int .i64 (fndP f l).1.2.1, .int .i64 (fndP f l).1.2.2.1, .int .i64 (fndP f l).1.2.2.2.1, .int .i64 (fndP f l).1.2.2.2.2], .bool (fndP f l).2]) ∧ Below w.heap.size w w' := by
  have HI := Lib.hid (fun W h => sfind_any st v A ca l f W h hl)
  have HA := Lib.hid hA
  have HB0 := Lib.hid (hbt (below_al w (.cells #[.int .i64 st, .int .i64 v, .slice A l.length ca] 28)) (below_al _ (.cells #[.int .i64 0, .int .i64 0, .int .i64 0, .int .i64 0, .int .i64 0] 84)))
  have HM0 : Hid (((w.alloc (.cells #[.int .i64 st, .int .i64 v, .slice A l.length ca] 28)).alloc (.cells #[.int .i64 0, .int .i64 0, .int .i64 0, .int .i64 0, .int .i64 0] 84)).heap[w.heap.size + 1]? = some (.cells #[.int .i64 0, .int .i64 0, .int .i64 0, .int .i64 0, .int .i64 0] 84)) := heap_al _ _ _ (by simp)
  clear hA hl
  generalize l.length = n at *
  generalize (fndP f l).2 = ok at *
  generalize (fndP f l).1 = X at *
  obtain ⟨n1, c1, f1, lo1, hi1⟩ := X
  go_enter Tryz.func69, Tryz.ntmps69
  go_wp2_with fail
  refine (HI.out _ (HA.out.below HB0.out)).mono ?_
  rintro e w1 ⟨rfl, hb1⟩
  have HB1 := Lib.hid (hbt HB0.out hb1)
  have HM1 := Lib.hid (obj_below HM0.out hb1)
  clear hb1 HI HB0 HM0
  obtain ⟨g0, g1, g2, g3, g4⟩ := obj_warm5 HM1.out
  obtain ⟨e0, e1, e2, e3, e4⟩ := obj_cells5 HM1.out
  go_wp2
  refine bodyPost_ret (results_cell_row1 rfl _ _ (w.heap.size + 1) _ _ _ _ rfl (obj_set5 HM1.out _ _ _ _ _) Tryz.underlying84 rfl (by kernel_rfl)) rfl ?_
  exact ⟨rfl, below_set5 HB1.out (by omega) _ _ _ _ _⟩
set_option maxRecDepth 100000 in
set_option maxHeartbeats 1600000 in
theorem rkind_1 (f t : Int) (s : ByteArray) (B : Option Addr) (n cP : Nat) (P : List PairT) (n1 c1 f1 lo1 hi1 n2 c2 f2 lo2 hi2 : Int) (w : World) (hK : Kinds w) : Calls Tryz.prog 70 #[.agg #[.int .i64 1, .int .i64 f, .int .i64 t, .string s, .slice B n cP], .agg #[.int .i64 n1, .int .i64 c1, .int .i64 f1, .int .i64 lo1, .int .i64 hi1], .agg #[.int .i64 n2, .int .i64 c2, .int .i64 f2, .int .i64 lo2, .int .i64 hi2]] w fun e w' => e = .returned (.int .i64 (rlK 1 (n1, c1, f1, lo1, hi1) (n2, c2, f2, lo2, hi2) s P)) ∧ Below w.heap.size w w' := by
  have HB0 : Hid (Below w.heap.size w (((w.alloc (.cells #[.int .i64 1, .int .i64 f, .int .i64 t, .string s, .slice B n cP] 58)).alloc (.cells #[.int .i64 n1, .int .i64 c1, .int .i64 f1, .int .i64 lo1, .int .i64 hi1] 84)).alloc (.cells #[.int .i64 n2, .int .i64 c2, .int .i64 f2, .int .i64 lo2, .int .i64 hi2] 84))) := hbt (hbt (below_al _ _) (below_al _ _)) (below_al _ _)
  have HK := Lib.hid hK
  have HW := Lib.hid (fun W k => spwider_any n2 c2 f2 lo2 hi2 n1 c1 f1 lo1 hi1 W k)
  have HE5 : Hid (rlK 1 (n1, c1, f1, lo1, hi1) (n2, c2, f2, lo2, hi2) s P = if spw n2 c2 f2 lo2 hi2 n1 c1 f1 lo1 hi1 then 0 else 6) := rfl
  generalize spw n2 c2 f2 lo2 hi2 n1 c1 f1 lo1 hi1 = r at *
  clear hK
  go_enter Tryz.func70, Tryz.ntmps70
  go_wp2_with fail
  refine (HW.out _ (HK.out.below HB0.out)).mono ?_
  rintro e w1 ⟨rfl, hb1⟩
  have HB1 := Lib.hid (hbt HB0.out hb1)
  clear hb1
  cases r
  · go_wp2
    go_ret
    exact ⟨by rw [HE5.out] <;> rfl, HB1.out⟩
  · go_wp2
    go_ret
    exact ⟨by rw [HE5.out] <;> rfl, HB1.out⟩
set_option maxRecDepth 100000 in
set_option maxHeartbeats 1600000 in
theorem rkind_2 (f t : Int) (s : ByteArray) (B : Option Addr) (n cP : Nat) (P : List PairT) (n1 c1 f1 lo1 hi1 n2 c2 f2 lo2 hi2 : Int) (w : World) : Calls Tryz.prog 70 #[.agg #[.int .i64 2, .int .i64 f, .int .i64 t, .string s, .slice B n cP], .agg #[.int .i64 n1, .int .i64 c1, .int .i64 f1, .int .i64 lo1, .int .i64 hi1], .agg #[.int .i64 n2, .int .i64 c2, .int .i64 f2, .int .i64 lo2, .int .i64 hi2]] w fun e w' => e = .returned (.int .i64 (rlK 2 (n1, c1, f1, lo1, hi1) (n2, c2, f2, lo2, hi2) s P)) ∧ Below w.heap.size w w' := by
  go_enter Tryz.func70, Tryz.ntmps70
  go_wp2
  go_ret
  exact ⟨rfl, hbt (hbt (below_al _ _) (below_al _ _)) (below_al _ _)⟩
set_option maxRecDepth 100000 in
set_option maxHeartbeats 1600000 in
theorem rkind_3 (f t : Int) (s : ByteArray) (B : Option Addr) (n cP : Nat) (P : List PairT) (n1 c1 f1 lo1 hi1 n2 c2 f2 lo2 hi2 : Int) (w : World) (hK : Kinds w) (hs : s.size ≤ maxLen) : Calls Tryz.prog 70 #[.agg #[.int .i64 3, .int .i64 f, .int .i64 t, .string s, .slice B n cP], .agg #[.int .i64 n1, .int .i64 c1, .int .i64 f1, .int .i64 lo1, .int .i64 hi1], .agg #[.int .i64 n2, .int .i64 c2, .int .i64 f2, .int .i64 lo2, .int .i64 hi2]] w fun e w' => e = .returned (.int .i64 (rlK 3 (n1, c1, f1, lo1, hi1) (n2, c2, f2, lo2, hi2) s P)) ∧ Below w.heap.size w w' := by
  have HB0 : Hid (Below w.heap.size w (((w.alloc (.cells #[.int .i64 3, .int .i64 f, .int .i64 t, .string s, .slice B n cP] 58)).alloc (.cells #[.int .i64 n1, .int .i64 c1, .int .i64 f1, .int .i64 lo1, .int .i64 hi1] 84)).alloc (.cells #[.int .i64 n2, .int .i64 c2, .int .i64 f2, .int .i64 lo2, .int .i64 hi2] 84))) := hbt (hbt (below_al _ _) (below_al _ _)) (below_al _ _)
  have HK := Lib.hid hK
  have HV := Lib.hid (fun W k => spvalue_any n2 c2 f2 lo2 hi2 s W k hs)
  have HE5 : Hid (rlK 3 (n1, c1, f1, lo1, hi1) (n2, c2, f2, lo2, hi2) s P = spv n2 c2 f2 lo2 hi2 s) := rfl
  generalize spv n2 c2 f2 lo2 hi2 s = r at *
  clear hK hs
  go_enter Tryz.func70, Tryz.ntmps70
  go_wp2_with fail
  refine (HV.out _ (HK.out.below HB0.out)).mono ?_
  rintro e w1 ⟨rfl, hb1⟩
  have HB1 := Lib.hid (hbt HB0.out hb1)
  clear hb1
  go_wp2
  go_ret
  exact ⟨by rw [HE5.out] <;> rfl, HB1.out⟩
set_option maxRecDepth 100000 in
set_option maxHeartbeats 1600000 in
theorem rkind_4 (f t : Int) (s : ByteArray) (B : Option Addr) (n cP : Nat) (P : List PairT) (n1 c1 f1 lo1 hi1 n2 c2 f2 lo2 hi2 : Int) (w : World) : Calls Tryz.prog 70 #[.agg #[.int .i64 4, .int .i64 f, .int .i64 t, .string s, .slice B n cP], .agg #[.int .i64 n1, .int .i64 c1, .int .i64 f1, .int .i64 lo1, .int .i64 hi1], .agg #[.int .i64 n2, .int .i64 c2, .int .i64 f2, .int .i64 lo2, .int .i64 hi2]] w fun e w' => e = .returned (.int .i64 (rlK 4 (n1, c1, f1, lo1, hi1) (n2, c2, f2, lo2, hi2) s P)) ∧ Below w.heap.size w w' := by
  have HB0 : Hid (Below w.heap.size w (((w.alloc (.cells #[.int .i64 4, .int .i64 f, .int .i64 t, .string s, .slice B n cP] 58)).alloc (.cells #[.int .i64 n1, .int .i64 c1, .int .i64 f1, .int .i64 lo1, .int .i64 hi1] 84)).alloc (.cells #[.int .i64 n2, .int .i64 c2, .int .i64 f2, .int .i64 lo2, .int .i64 hi2] 84))) := hbt (hbt (below_al _ _) (below_al _ _)) (below_al _ _)
  have HY0 : Hid ((((w.alloc (.cells #[.int .i64 4, .int .i64 f, .int .i64 t, .string s, .slice B n cP] 58)).alloc (.cells #[.int .i64 n1, .int .i64 c1, .int .i64 f1, .int .i64 lo1, .int .i64 hi1] 84)).alloc (.cells #[.int .i64 n2, .int .i64 c2, .int .i64 f2, .int .i64 lo2, .int .i64 hi2] 84)).heap[w.heap.size + 2]? = some (.cells #[.int .i64 n2, .int .i64 c2, .int .i64 f2, .int .i64 lo2, .int .i64 hi2] 84)) := heap_al _ _ _ (by simp)
  have HW1 := Lib.hid (fun W => repads_any n1 c1 f1 lo1 hi1 W)
  have HW2 := Lib.hid (fun W => repads_any n2 c2 f2 lo2 hi2 W)
  have HE5 : Hid (rlK 4 (n1, c1, f1, lo1, hi1) (n2, c2, f2, lo2, hi2) s P = if ((c1 == 1) && (f1 == 1)) && ((c2 == 1) && (f2 == 1)) then 0 else 6) := rfl
  generalize ((c1 == 1) && (f1 == 1)) = p1 at *
  generalize ((c2 == 1) && (f2 == 1)) = p2 at *
  go_enter Tryz.func70, Tryz.ntmps70
  go_wp2_with fail
  refine (HW1.out _).mono ?_
  rintro e w1 ⟨rfl, hb1⟩
  have HB1 := Lib.hid (hbt HB0.out hb1)
  have HY1 := Lib.hid (obj_below HY0.out hb1)
  clear hb1 HY0
  obtain ⟨y0, y1, y2, y3, y4⟩ := obj_cells5 HY1.out
  cases p1
  · go_wp2
    go_ret
    exact ⟨by rw [HE5.out] <;> rfl, HB1.out⟩
  · go_wp2_with fail
    refine (HW2.out _).mono ?_
    rintro e w2 ⟨rfl, hb2⟩
    have HB2 := Lib.hid (hbt HB1.out hb2)
    clear hb2
    cases p2
    · go_wp2
      go_ret
      exact ⟨by rw [HE5.out] <;> rfl, HB2.out⟩
    · go_wp2
      go_ret
      exact ⟨by rw [HE5.out] <;> rfl, HB2.out⟩
set_option maxRecDepth 100000 in
set_option maxHeartbeats 1600000 in
theorem rkind_5 (f t : Int) (s : ByteArray) (B : Option Addr) (n cP : Nat) (P : List PairT) (n1 c1 f1 lo1 hi1 n2 c2 f2 lo2 hi2 : Int) (w : World) (hK : Kinds w) (hP : Prs w B P) (hn : P.length = n) (hlP : P.length ≤ 5000000) (hf : Fit2 P) : Calls Tryz.prog 70 #[.agg #[.int .i64 5, .int .i64 f, .int .i64 t, .string s, .slice B n cP], .agg #[.int .i64 n1, .int .i64 c1, .int .i64 f1, .int .i64 lo1, .int .i64 hi1], .agg #[.int .i64 n2, .int .i64 c2, .int .i64 f2, .int .i64 lo2, .int .i64 hi2]] w fun e w' => e = .returned (.int .i64 (rlK 5 (n1, c1, f1, lo1, hi1) (n2, c2, f2, lo2, hi2) s P)) ∧ Below w.heap.size w w' := by
  have HB0 : Hid (Below w.heap.size w (((w.alloc (.cells #[.int .i64 5, .int .i64 f, .int .i64 t, .string s, .slice B n cP] 58)).alloc (.cells #[.int .i64 n1, .int .i64 c1, .int .i64 f1, .int .i64 lo1, .int .i64 hi1] 84)).alloc (.cells #[.int .i64 n2, .int .i64 c2, .int .i64 f2, .int .i64 lo2, .int .i64 hi2] 84))) := hbt (hbt (below_al _ _) (below_al _ _)) (below_al _ _)
  have HK := Lib.hid hK
  have HP := Lib.hid hP
  have HE5 : Hid (rlK 5 (n1, c1, f1, lo1, hi1) (n2, c2, f2, lo2, hi2) s P = if (tabN P).1 ≠ 0 ∨ P = [] then 15 else rlT (n1, c1, f1, lo1, hi1) (n2, c2, f2, lo2, hi2) P) := rfl
  have HT : Hid (∀ W, Kinds W → Prs W B P → Calls Tryz.prog 88 #[.slice B n cP, .agg #[.int .i64 n1, .int .i64 c1, .int .i64 f1, .int .i64 lo1, .int .i64 hi1], .agg #[.int .i64 n2, .int .i64 c2, .int .i64 f2, .int .i64 lo2, .int .i64 hi2]] W fun e w' => e = .returned (.int .i64 (rlK 5 (n1, c1, f1, lo1, hi1) (n2, c2, f2, lo2, hi2) s P)) ∧ Below W.heap.size W w') := fun W k h => by
    by_cases hz : (tabN P).1 ≠ 0 ∨ P = []
    · rw [HE5.out, if_pos hz]
      exact rtab_no B cP n P n1 c1 f1 lo1 hi1 n2 c2 f2 lo2 hi2 W h hn (by unfold maxLen; omega) hf hz
    · rw [HE5.out, if_neg hz]
      exact rtab_yes B cP n P n1 c1 f1 lo1 hi1 n2 c2 f2 lo2 hi2 W k h hn hf (Decidable.byContradiction fun e => hz (Or.inl e)) (fun e => hz (Or.inr e))
  clear hK hP hn hlP hf HE5
  generalize rlK 5 (n1, c1, f1, lo1, hi1) (n2, c2, f2, lo2, hi2) s P = r at *
  go_enter Tryz.func70, Tryz.ntmps70
  go_wp2_with fail
  refine (HT.out _ (HK.out.below HB0.out) (HP.out.below HB0.out)).mono ?_
  rintro e w1 ⟨rfl, hb1⟩
  have HB1 := Lib.hid (hbt HB0.out hb1)
  clear hb1
  go_wp2
  go_ret
  exact ⟨rfl, HB1.out⟩
theorem text_cases (s : ByteArray) : s = ⟨#[]⟩ ∨ (s.toList.isEmpty = false ∧ s ≠ ⟨#[]⟩) := by
  by_cases h : s = ⟨#[]⟩
  · exact Or.inl h
  · exact Or.inr ⟨text_some h, h⟩
set_option maxRecDepth 100000 in
set_option maxHeartbeats 1600000 in
theorem rchk_low (k f t : Int) (s : ByteArray) (B : Option Addr) (n cP : Nat) (st v : Int) (A : Option Addr) (la ca : Nat) (st' v' : Int) (A' : Option Addr) (lb cb : Nat) (w : World) (h : k < 1) : Calls Tryz.prog 48 #[.agg #[.int .i64 k, .int .i64 f, .int .i64 t, .string s, .slice B n cP], .agg #[.int .i64 st, .int .i64 v, .slice A la ca], .agg #[.int .i64 st', .int .i64 v', .slice A' lb cb]] w fun e w' => e = .returned (.int .i64 1) ∧ Below w.heap.size w w' := by
  have t1 : decide (k < 1) = true := by simpa using h
  clear h
  go_enter Tryz.func48, Tryz.ntmps48
  go_wp2
  go_ret
  exact ⟨rfl, hbt (hbt (below_al _ _) (below_al _ _)) (below_al _ _)⟩
set_option maxRecDepth 100000 in
set_option maxHeartbeats 1600000 in
theorem rchk_high (k f t : Int) (s : ByteArray) (B : Option Addr) (n cP : Nat) (st v : Int) (A : Option Addr) (la ca : Nat) (st' v' : Int) (A' : Option Addr) (lb cb : Nat) (w : World) (h : 5 < k) : Calls Tryz.prog 48 #[.agg #[.int .i64 k, .int .i64 f, .int .i64 t, .string s, .slice B n cP], .agg #[.int .i64 st, .int .i64 v, .slice A la ca], .agg #[.int .i64 st', .int .i64 v', .slice A' lb cb]] w fun e w' => e = .returned (.int .i64 1) ∧ Below w.heap.size w w' := by
  have t1 : decide (k < 1) = false := by simp; omega
  have t2 : decide (5 < k) = true := by simpa using h
  clear h
  go_enter Tryz.func48, Tryz.ntmps48
  go_wp2
  go_ret
  exact ⟨rfl, hbt (hbt (below_al _ _) (below_al _ _)) (below_al _ _)⟩
set_option maxRecDepth 100000 in
set_option maxHeartbeats 3200000 in
theorem rchk_1 (f t : Int) (s : ByteArray) (B : Option Addr) (n cP : Nat) (st v : Int) (A : Option Addr) (la ca : Nat) (st' v' : Int) (A' : Option Addr) (lb cb : Nat) (okA okB : Bool) (n1 c1 f1 lo1 hi1 n2 c2 f2 lo2 hi2 r R : Int) (w : World)
    (hI : ∀ W, Below w.heap.size w W → Calls Tryz.prog 69 #[.agg #[.int .i64 st, .int .i64 v, .slice A la ca], .int .i64 f, .bool false] W fun e w' => e = .returned (.tuple #[.agg #[.int .i64 n1, .int .i64 c1, .int .i64 f1, .int .i64 lo1, .int .i64 hi1], .bool okA]) ∧ Below W.heap.size W w')
    (hJ : ∀ W, Below w.heap.size w W → Calls Tryz.prog 69 #[.agg #[.int .i64 st', .int .i64 v', .slice A' lb cb], .int .i64 t, .bool false] W fun e w' => e = .returned (.tuple #[.agg #[.int .i64 n2, .int .i64 c2, .int .i64 f2, .int .i64 lo2, .int .i64 hi2], .bool okB]) ∧ Below W.heap.size W w')
    (hC : ∀ W, Below w.heap.size w W → Calls Tryz.prog 70 #[.agg #[.int .i64 1, .int .i64 f, .int .i64 t, .string s, .slice B n cP], .agg #[.int .i64 n1, .int .i64 c1, .int .i64 f1, .int .i64 lo1, .int .i64 hi1], .agg #[.int .i64 n2, .int .i64 c2, .int .i64 f2, .int .i64 lo2, .int .i64 hi2]] W fun e w' => e = .returned (.int .i64 r) ∧ Below W.heap.size W w')
    (h1 : okA = false → R = 9) (h2 : okA = true → okB = false → R = 9) (h3 : okA = true → okB = true → s ≠ ⟨#[]⟩ → R = 3) (h4 : okA = true → okB = true → n ≠ 0 → R = 3) (h5 : okA = true → okB = true → s = ⟨#[]⟩ → n = 0 → R = r) :
    Calls Tryz.prog 48 #[.agg #[.int .i64 1, .int .i64 f, .int .i64 t, .string s, .slice B n cP], .agg #[.int .i64 st, .int .i64 v, .slice A la ca], .agg #[.int .i64 st', .int .i64 v', .slice A' lb cb]] w fun e w' => e = .returned (.int .i64 R) ∧ Below w.heap.size w w' := by
  have HR1 := Lib.hid h1
  have HR2 := Lib.hid h2
  have HR3 := Lib.hid h3
  have HR4 := Lib.hid h4
  have HR5 := Lib.hid h5
  have HI := Lib.hid hI
  have HJ := Lib.hid hJ
  have HC := Lib.hid hC
  have HQ0 := Lib.hid (rq_new w 1 f t s B n cP st v A la ca st' v' A' lb cb)
  clear h1 h2 h3 h4 h5 hI hJ hC
  go_enter Tryz.func48, Tryz.ntmps48
  go_wp2_with fail
  generalize ((w.alloc (.cells #[.int .i64 1, .int .i64 f, .int .i64 t, .string s, .slice B n cP] 58)).alloc (.cells #[.int .i64 st, .int .i64 v, .slice A la ca] 28)).alloc (.cells #[.int .i64 st', .int .i64 v', .slice A' lb cb] 28) = U at *
  refine (HI.out _ HQ0.out.1).mono ?_
  rintro e w1 ⟨rfl, hb1⟩
  have hb1' := hbt hb1 (below_al w1 (.cells #[.int .i64 n1, .int .i64 c1, .int .i64 f1, .int .i64 lo1, .int .i64 hi1] 84))
  have HQ1 := Lib.hid (HQ0.out.below hb1')
  have HX1 : Hid ((w1.alloc (.cells #[.int .i64 n1, .int .i64 c1, .int .i64 f1, .int .i64 lo1, .int .i64 hi1] 84)).heap[w1.heap.size]? = some (.cells #[.int .i64 n1, .int .i64 c1, .int .i64 f1, .int .i64 lo1, .int .i64 hi1] 84)) := heap_alloc_new _ _
  clear hb1 hb1' HI HQ0
  obtain ⟨⟨r0, r1, r2, r3, r4⟩, ⟨a0, a1, a2⟩, b0, b1, b2⟩ := HQ1.out.cells
  go_wp2_with fail
  clear r0 r1 r2 r3 r4 a0 a1 a2 b0 b1 b2
  generalize w1.alloc (.cells #[.int .i64 n1, .int .i64 c1, .int .i64 f1, .int .i64 lo1, .int .i64 hi1] 84) = W1 at *
  generalize w1.heap.size = gx at *
  refine (HJ.out _ HQ1.out.1).mono ?_
  rintro e w2 ⟨rfl, hb2⟩
  have hb2' := hbt hb2 (below_al w2 (.cells #[.int .i64 n2, .int .i64 c2, .int .i64 f2, .int .i64 lo2, .int .i64 hi2] 84))
  have HQ2 := Lib.hid (HQ1.out.below hb2')
  have HX2 := Lib.hid (obj_below HX1.out hb2')
  have HY2 : Hid ((w2.alloc (.cells #[.int .i64 n2, .int .i64 c2, .int .i64 f2, .int .i64 lo2, .int .i64 hi2] 84)).heap[w2.heap.size]? = some (.cells #[.int .i64 n2, .int .i64 c2, .int .i64 f2, .int .i64 lo2, .int .i64 hi2] 84)) := heap_alloc_new _ _
  clear hb2 hb2' HJ HQ1 HX1
  obtain ⟨⟨r0, r1, r2, r3, r4⟩, ⟨a0, a1, a2⟩, b0, b1, b2⟩ := HQ2.out.cells
  obtain ⟨x0, x1, x2, x3, x4⟩ := obj_cells5 HX2.out
  obtain ⟨y0, y1, y2, y3, y4⟩ := obj_cells5 HY2.out
  cases okA
  · have HE := Lib.hid (HR1.out rfl)
    go_wp2
    go_ret
    exact ⟨by rw [HE.out] <;> rfl, HQ2.out.1⟩
  · cases okB
    · have HE := Lib.hid (HR2.out rfl rfl)
      go_wp2
      go_ret
      exact ⟨by rw [HE.out] <;> rfl, HQ2.out.1⟩
    · rcases text_cases s with rfl | ⟨ts, tne⟩
      · skip
        rcases (by omega : n = 0 ∨ 0 < n) with rfl | hn0
        · have HE := Lib.hid (HR5.out rfl rfl rfl rfl)
          go_wp2_with fail
          clear r0 r1 r2 r3 r4 a0 a1 a2 b0 b1 b2 x0 x1 x2 x3 x4 y0 y1 y2 y3 y4
          generalize w2.alloc (.cells #[.int .i64 n2, .int .i64 c2, .int .i64 f2, .int .i64 lo2, .int .i64 hi2] 84) = W2 at *
          refine (HC.out _ HQ2.out.1).mono ?_
          rintro e w3 ⟨rfl, hb3⟩
          have HB3 := Lib.hid (hbt HQ2.out.1 hb3)
          clear hb3
          go_wp2
          go_ret
          exact ⟨by rw [HE.out] <;> rfl, HB3.out⟩
        · have HE := Lib.hid (HR4.out rfl rfl (by omega))
          go_wp2
          go_ret
          exact ⟨by rw [HE.out] <;> rfl, HQ2.out.1⟩
      · skip
        have HE := Lib.hid (HR3.out rfl rfl tne)
        clear tne
        go_wp2
        go_ret
        exact ⟨by rw [HE.out] <;> rfl, HQ2.out.1⟩
set_option maxRecDepth 100000 in
set_option maxHeartbeats 3200000 in
theorem rchk_2 (f t : Int) (s : ByteArray) (B : Option Addr) (n cP : Nat) (st v : Int) (A : Option Addr) (la ca : Nat) (st' v' : Int) (A' : Option Addr) (lb cb : Nat) (okA okB : Bool) (n1 c1 f1 lo1 hi1 n2 c2 f2 lo2 hi2 r R : Int) (w : World)
    (hI : ∀ W, Below w.heap.size w W → Calls Tryz.prog 69 #[.agg #[.int .i64 st, .int .i64 v, .slice A la ca], .int .i64 f, .bool false] W fun e w' => e = .returned (.tuple #[.agg #[.int .i64 n1, .int .i64 c1, .int .i64 f1, .int .i64 lo1, .int .i64 hi1], .bool okA]) ∧ Below W.heap.size W w')
    (hJ : ∀ W, Below w.heap.size w W → Calls Tryz.prog 69 #[.agg #[.int .i64 st', .int .i64 v', .slice A' lb cb], .int .i64 t, .bool true] W fun e w' => e = .returned (.tuple #[.agg #[.int .i64 n2, .int .i64 c2, .int .i64 f2, .int .i64 lo2, .int .i64 hi2], .bool okB]) ∧ Below W.heap.size W w')
    (hC : ∀ W, Below w.heap.size w W → Calls Tryz.prog 70 #[.agg #[.int .i64 2, .int .i64 f, .int .i64 t, .string s, .slice B n cP], .agg #[.int .i64 n1, .int .i64 c1, .int .i64 f1, .int .i64 lo1, .int .i64 hi1], .agg #[.int .i64 n2, .int .i64 c2, .int .i64 f2, .int .i64 lo2, .int .i64 hi2]] W fun e w' => e = .returned (.int .i64 r) ∧ Below W.heap.size W w')
    (h1 : okA = false → R = 9) (h2 : okA = true → okB = false → R = 9) (h3 : okA = true → okB = true → s ≠ ⟨#[]⟩ → R = 3) (h4 : okA = true → okB = true → n ≠ 0 → R = 3) (h5 : okA = true → okB = true → s = ⟨#[]⟩ → n = 0 → R = r) :
    Calls Tryz.prog 48 #[.agg #[.int .i64 2, .int .i64 f, .int .i64 t, .string s, .slice B n cP], .agg #[.int .i64 st, .int .i64 v, .slice A la ca], .agg #[.int .i64 st', .int .i64 v', .slice A' lb cb]] w fun e w' => e = .returned (.int .i64 R) ∧ Below w.heap.size w w' := by
  have HR1 := Lib.hid h1
  have HR2 := Lib.hid h2
  have HR3 := Lib.hid h3
  have HR4 := Lib.hid h4
  have HR5 := Lib.hid h5
  have HI := Lib.hid hI
  have HJ := Lib.hid hJ
  have HC := Lib.hid hC
  have HQ0 := Lib.hid (rq_new w 2 f t s B n cP st v A la ca st' v' A' lb cb)
  clear h1 h2 h3 h4 h5 hI hJ hC
  go_enter Tryz.func48, Tryz.ntmps48
  go_wp2_with fail
  generalize ((w.alloc (.cells #[.int .i64 2, .int .i64 f, .int .i64 t, .string s, .slice B n cP] 58)).alloc (.cells #[.int .i64 st, .int .i64 v, .slice A la ca] 28)).alloc (.cells #[.int .i64 st', .int .i64 v', .slice A' lb cb] 28) = U at *
  refine (HI.out _ HQ0.out.1).mono ?_
  rintro e w1 ⟨rfl, hb1⟩
  have hb1' := hbt hb1 (below_al w1 (.cells #[.int .i64 n1, .int .i64 c1, .int .i64 f1, .int .i64 lo1, .int .i64 hi1] 84))
  have HQ1 := Lib.hid (HQ0.out.below hb1')
  have HX1 : Hid ((w1.alloc (.cells #[.int .i64 n1, .int .i64 c1, .int .i64 f1, .int .i64 lo1, .int .i64 hi1] 84)).heap[w1.heap.size]? = some (.cells #[.int .i64 n1, .int .i64 c1, .int .i64 f1, .int .i64 lo1, .int .i64 hi1] 84)) := heap_alloc_new _ _
  clear hb1 hb1' HI HQ0
  obtain ⟨⟨r0, r1, r2, r3, r4⟩, ⟨a0, a1, a2⟩, b0, b1, b2⟩ := HQ1.out.cells
  go_wp2_with fail
  clear r0 r1 r2 r3 r4 a0 a1 a2 b0 b1 b2
  generalize w1.alloc (.cells #[.int .i64 n1, .int .i64 c1, .int .i64 f1, .int .i64 lo1, .int .i64 hi1] 84) = W1 at *
  generalize w1.heap.size = gx at *
  refine (HJ.out _ HQ1.out.1).mono ?_
  rintro e w2 ⟨rfl, hb2⟩
  have hb2' := hbt hb2 (below_al w2 (.cells #[.int .i64 n2, .int .i64 c2, .int .i64 f2, .int .i64 lo2, .int .i64 hi2] 84))
  have HQ2 := Lib.hid (HQ1.out.below hb2')
  have HX2 := Lib.hid (obj_below HX1.out hb2')
  have HY2 : Hid ((w2.alloc (.cells #[.int .i64 n2, .int .i64 c2, .int .i64 f2, .int .i64 lo2, .int .i64 hi2] 84)).heap[w2.heap.size]? = some (.cells #[.int .i64 n2, .int .i64 c2, .int .i64 f2, .int .i64 lo2, .int .i64 hi2] 84)) := heap_alloc_new _ _
  clear hb2 hb2' HJ HQ1 HX1
  obtain ⟨⟨r0, r1, r2, r3, r4⟩, ⟨a0, a1, a2⟩, b0, b1, b2⟩ := HQ2.out.cells
  obtain ⟨x0, x1, x2, x3, x4⟩ := obj_cells5 HX2.out
  obtain ⟨y0, y1, y2, y3, y4⟩ := obj_cells5 HY2.out
  cases okA
  · have HE := Lib.hid (HR1.out rfl)
    go_wp2
    go_ret
    exact ⟨by rw [HE.out] <;> rfl, HQ2.out.1⟩
  · cases okB
    · have HE := Lib.hid (HR2.out rfl rfl)
      go_wp2
      go_ret
      exact ⟨by rw [HE.out] <;> rfl, HQ2.out.1⟩
    · rcases text_cases s with rfl | ⟨ts, tne⟩
      · skip
        rcases (by omega : n = 0 ∨ 0 < n) with rfl | hn0
        · have HE := Lib.hid (HR5.out rfl rfl rfl rfl)
          go_wp2_with fail
          clear r0 r1 r2 r3 r4 a0 a1 a2 b0 b1 b2 x0 x1 x2 x3 x4 y0 y1 y2 y3 y4
          generalize w2.alloc (.cells #[.int .i64 n2, .int .i64 c2, .int .i64 f2, .int .i64 lo2, .int .i64 hi2] 84) = W2 at *
          refine (HC.out _ HQ2.out.1).mono ?_
          rintro e w3 ⟨rfl, hb3⟩
          have HB3 := Lib.hid (hbt HQ2.out.1 hb3)
          clear hb3
          go_wp2
          go_ret
          exact ⟨by rw [HE.out] <;> rfl, HB3.out⟩
        · have HE := Lib.hid (HR4.out rfl rfl (by omega))
          go_wp2
          go_ret
          exact ⟨by rw [HE.out] <;> rfl, HQ2.out.1⟩
      · skip
        have HE := Lib.hid (HR3.out rfl rfl tne)
        clear tne
        go_wp2
        go_ret
        exact ⟨by rw [HE.out] <;> rfl, HQ2.out.1⟩
set_option maxRecDepth 100000 in
set_option maxHeartbeats 3200000 in
theorem rchk_3 (f t : Int) (s : ByteArray) (B : Option Addr) (n cP : Nat) (st v : Int) (A : Option Addr) (la ca : Nat) (st' v' : Int) (A' : Option Addr) (lb cb : Nat) (okA okB : Bool) (n1 c1 f1 lo1 hi1 n2 c2 f2 lo2 hi2 r R : Int) (w : World)
    (hI : ∀ W, Below w.heap.size w W → Calls Tryz.prog 69 #[.agg #[.int .i64 st, .int .i64 v, .slice A la ca], .int .i64 f, .bool true] W fun e w' => e = .returned (.tuple #[.agg #[.int .i64 n1, .int .i64 c1, .int .i64 f1, .int .i64 lo1, .int .i64 hi1], .bool okA]) ∧ Below W.heap.size W w')
    (hJ : ∀ W, Below w.heap.size w W → Calls Tryz.prog 69 #[.agg #[.int .i64 st', .int .i64 v', .slice A' lb cb], .int .i64 t, .bool false] W fun e w' => e = .returned (.tuple #[.agg #[.int .i64 n2, .int .i64 c2, .int .i64 f2, .int .i64 lo2, .int .i64 hi2], .bool okB]) ∧ Below W.heap.size W w')
    (hC : ∀ W, Below w.heap.size w W → Calls Tryz.prog 70 #[.agg #[.int .i64 3, .int .i64 f, .int .i64 t, .string s, .slice B n cP], .agg #[.int .i64 n1, .int .i64 c1, .int .i64 f1, .int .i64 lo1, .int .i64 hi1], .agg #[.int .i64 n2, .int .i64 c2, .int .i64 f2, .int .i64 lo2, .int .i64 hi2]] W fun e w' => e = .returned (.int .i64 r) ∧ Below W.heap.size W w')
    (h1 : okA = false → R = 9) (h2 : okA = true → okB = false → R = 9) (h4 : okA = true → okB = true → n ≠ 0 → R = 3) (h5 : okA = true → okB = true → n = 0 → R = r) :
    Calls Tryz.prog 48 #[.agg #[.int .i64 3, .int .i64 f, .int .i64 t, .string s, .slice B n cP], .agg #[.int .i64 st, .int .i64 v, .slice A la ca], .agg #[.int .i64 st', .int .i64 v', .slice A' lb cb]] w fun e w' => e = .returned (.int .i64 R) ∧ Below w.heap.size w w' := by
  have HR1 := Lib.hid h1
  have HR2 := Lib.hid h2
  have HR4 := Lib.hid h4
  have HR5 := Lib.hid h5
  have HI := Lib.hid hI
  have HJ := Lib.hid hJ
  have HC := Lib.hid hC
  have HQ0 := Lib.hid (rq_new w 3 f t s B n cP st v A la ca st' v' A' lb cb)
  clear h1 h2 h4 h5 hI hJ hC
  go_enter Tryz.func48, Tryz.ntmps48
  go_wp2_with fail
  generalize ((w.alloc (.cells #[.int .i64 3, .int .i64 f, .int .i64 t, .string s, .slice B n cP] 58)).alloc (.cells #[.int .i64 st, .int .i64 v, .slice A la ca] 28)).alloc (.cells #[.int .i64 st', .int .i64 v', .slice A' lb cb] 28) = U at *
  refine (HI.out _ HQ0.out.1).mono ?_
  rintro e w1 ⟨rfl, hb1⟩
  have hb1' := hbt hb1 (below_al w1 (.cells #[.int .i64 n1, .int .i64 c1, .int .i64 f1, .int .i64 lo1, .int .i64 hi1] 84))
  have HQ1 := Lib.hid (HQ0.out.below hb1')
  have HX1 : Hid ((w1.alloc (.cells #[.int .i64 n1, .int .i64 c1, .int .i64 f1, .int .i64 lo1, .int .i64 hi1] 84)).heap[w1.heap.size]? = some (.cells #[.int .i64 n1, .int .i64 c1, .int .i64 f1, .int .i64 lo1, .int .i64 hi1] 84)) := heap_alloc_new _ _
  clear hb1 hb1' HI HQ0
  obtain ⟨⟨r0, r1, r2, r3, r4⟩, ⟨a0, a1, a2⟩, b0, b1, b2⟩ := HQ1.out.cells
  go_wp2_with fail
  clear r0 r1 r2 r3 r4 a0 a1 a2 b0 b1 b2
  generalize w1.alloc (.cells #[.int .i64 n1, .int .i64 c1, .int .i64 f1, .int .i64 lo1, .int .i64 hi1] 84) = W1 at *
  generalize w1.heap.size = gx at *
  refine (HJ.out _ HQ1.out.1).mono ?_
  rintro e w2 ⟨rfl, hb2⟩
  have hb2' := hbt hb2 (below_al w2 (.cells #[.int .i64 n2, .int .i64 c2, .int .i64 f2, .int .i64 lo2, .int .i64 hi2] 84))
  have HQ2 := Lib.hid (HQ1.out.below hb2')
  have HX2 := Lib.hid (obj_below HX1.out hb2')
  have HY2 : Hid ((w2.alloc (.cells #[.int .i64 n2, .int .i64 c2, .int .i64 f2, .int .i64 lo2, .int .i64 hi2] 84)).heap[w2.heap.size]? = some (.cells #[.int .i64 n2, .int .i64 c2, .int .i64 f2, .int .i64 lo2, .int .i64 hi2] 84)) := heap_alloc_new _ _
  clear hb2 hb2' HJ HQ1 HX1
  obtain ⟨⟨r0, r1, r2, r3, r4⟩, ⟨a0, a1, a2⟩, b0, b1, b2⟩ := HQ2.out.cells
  obtain ⟨x0, x1, x2, x3, x4⟩ := obj_cells5 HX2.out
  obtain ⟨y0, y1, y2, y3, y4⟩ := obj_cells5 HY2.out
  cases okA
  · have HE := Lib.hid (HR1.out rfl)
    go_wp2
    go_ret
    exact ⟨by rw [HE.out] <;> rfl, HQ2.out.1⟩
  · cases okB
    · have HE := Lib.hid (HR2.out rfl rfl)
      go_wp2
      go_ret
      exact ⟨by rw [HE.out] <;> rfl, HQ2.out.1⟩
    · rcases text_cases s with rfl | ⟨ts, tne⟩
      · skip
        rcases (by omega : n = 0 ∨ 0 < n) with rfl | hn0
        · have HE := Lib.hid (HR5.out rfl rfl rfl)
          go_wp2_with fail
          clear r0 r1 r2 r3 r4 a0 a1 a2 b0 b1 b2 x0 x1 x2 x3 x4 y0 y1 y2 y3 y4
          generalize w2.alloc (.cells #[.int .i64 n2, .int .i64 c2, .int .i64 f2, .int .i64 lo2, .int .i64 hi2] 84) = W2 at *
          refine (HC.out _ HQ2.out.1).mono ?_
          rintro e w3 ⟨rfl, hb3⟩
          have HB3 := Lib.hid (hbt HQ2.out.1 hb3)
          clear hb3
          go_wp2
          go_ret
          exact ⟨by rw [HE.out] <;> rfl, HB3.out⟩
        · have HE := Lib.hid (HR4.out rfl rfl (by omega))
          go_wp2
          go_ret
          exact ⟨by rw [HE.out] <;> rfl, HQ2.out.1⟩
      · clear tne
        rcases (by omega : n = 0 ∨ 0 < n) with rfl | hn0
        · have HE := Lib.hid (HR5.out rfl rfl rfl)
          go_wp2_with fail
          clear r0 r1 r2 r3 r4 a0 a1 a2 b0 b1 b2 x0 x1 x2 x3 x4 y0 y1 y2 y3 y4
          generalize w2.alloc (.cells #[.int .i64 n2, .int .i64 c2, .int .i64 f2, .int .i64 lo2, .int .i64 hi2] 84) = W2 at *
          refine (HC.out _ HQ2.out.1).mono ?_
          rintro e w3 ⟨rfl, hb3⟩
          have HB3 := Lib.hid (hbt HQ2.out.1 hb3)
          clear hb3
          go_wp2
          go_ret
          exact ⟨by rw [HE.out] <;> rfl, HB3.out⟩
        · have HE := Lib.hid (HR4.out rfl rfl (by omega))
          go_wp2
          go_ret
          exact ⟨by rw [HE.out] <;> rfl, HQ2.out.1⟩
set_option maxRecDepth 100000 in
set_option maxHeartbeats 3200000 in
theorem rchk_4 (f t : Int) (s : ByteArray) (B : Option Addr) (n cP : Nat) (st v : Int) (A : Option Addr) (la ca : Nat) (st' v' : Int) (A' : Option Addr) (lb cb : Nat) (okA okB : Bool) (n1 c1 f1 lo1 hi1 n2 c2 f2 lo2 hi2 r R : Int) (w : World)
    (hI : ∀ W, Below w.heap.size w W → Calls Tryz.prog 69 #[.agg #[.int .i64 st, .int .i64 v, .slice A la ca], .int .i64 f, .bool false] W fun e w' => e = .returned (.tuple #[.agg #[.int .i64 n1, .int .i64 c1, .int .i64 f1, .int .i64 lo1, .int .i64 hi1], .bool okA]) ∧ Below W.heap.size W w')
    (hJ : ∀ W, Below w.heap.size w W → Calls Tryz.prog 69 #[.agg #[.int .i64 st', .int .i64 v', .slice A' lb cb], .int .i64 t, .bool false] W fun e w' => e = .returned (.tuple #[.agg #[.int .i64 n2, .int .i64 c2, .int .i64 f2, .int .i64 lo2, .int .i64 hi2], .bool okB]) ∧ Below W.heap.size W w')
    (hC : ∀ W, Below w.heap.size w W → Calls Tryz.prog 70 #[.agg #[.int .i64 4, .int .i64 f, .int .i64 t, .string s, .slice B n cP], .agg #[.int .i64 n1, .int .i64 c1, .int .i64 f1, .int .i64 lo1, .int .i64 hi1], .agg #[.int .i64 n2, .int .i64 c2, .int .i64 f2, .int .i64 lo2, .int .i64 hi2]] W fun e w' => e = .returned (.int .i64 r) ∧ Below W.heap.size W w')
    (h1 : okA = false → R = 9) (h2 : okA = true → okB = false → R = 9) (h3 : okA = true → okB = true → s ≠ ⟨#[]⟩ → R = 3) (h4 : okA = true → okB = true → n ≠ 0 → R = 3) (h5 : okA = true → okB = true → s = ⟨#[]⟩ → n = 0 → R = r) :
    Calls Tryz.prog 48 #[.agg #[.int .i64 4, .int .i64 f, .int .i64 t, .string s, .slice B n cP], .agg #[.int .i64 st, .int .i64 v, .slice A la ca], .agg #[.int .i64 st', .int .i64 v', .slice A' lb cb]] w fun e w' => e = .returned (.int .i64 R) ∧ Below w.heap.size w w' := by
  have HR1 := Lib.hid h1
  have HR2 := Lib.hid h2
  have HR3 := Lib.hid h3
  have HR4 := Lib.hid h4
  have HR5 := Lib.hid h5
  have HI := Lib.hid hI
  have HJ := Lib.hid hJ
  have HC := Lib.hid hC
  have HQ0 := Lib.hid (rq_new w 4 f t s B n cP st v A la ca st' v' A' lb cb)
  clear h1 h2 h3 h4 h5 hI hJ hC
  go_enter Tryz.func48, Tryz.ntmps48
  go_wp2_with fail
  generalize ((w.alloc (.cells #[.int .i64 4, .int .i64 f, .int .i64 t, .string s, .slice B n cP] 58)).alloc (.cells #[.int .i64 st, .int .i64 v, .slice A la ca] 28)).alloc (.cells #[.int .i64 st', .int .i64 v', .slice A' lb cb] 28) = U at *
  refine (HI.out _ HQ0.out.1).mono ?_
  rintro e w1 ⟨rfl, hb1⟩
  have hb1' := hbt hb1 (below_al w1 (.cells #[.int .i64 n1, .int .i64 c1, .int .i64 f1, .int .i64 lo1, .int .i64 hi1] 84))
  have HQ1 := Lib.hid (HQ0.out.below hb1')
  have HX1 : Hid ((w1.alloc (.cells #[.int .i64 n1, .int .i64 c1, .int .i64 f1, .int .i64 lo1, .int .i64 hi1] 84)).heap[w1.heap.size]? = some (.cells #[.int .i64 n1, .int .i64 c1, .int .i64 f1, .int .i64 lo1, .int .i64 hi1] 84)) := heap_alloc_new _ _
  clear hb1 hb1' HI HQ0
  obtain ⟨⟨r0, r1, r2, r3, r4⟩, ⟨a0, a1, a2⟩, b0, b1, b2⟩ := HQ1.out.cells
  go_wp2_with fail
  clear r0 r1 r2 r3 r4 a0 a1 a2 b0 b1 b2
  generalize w1.alloc (.cells #[.int .i64 n1, .int .i64 c1, .int .i64 f1, .int .i64 lo1, .int .i64 hi1] 84) = W1 at *
  generalize w1.heap.size = gx at *
  refine (HJ.out _ HQ1.out.1).mono ?_
  rintro e w2 ⟨rfl, hb2⟩
  have hb2' := hbt hb2 (below_al w2 (.cells #[.int .i64 n2, .int .i64 c2, .int .i64 f2, .int .i64 lo2, .int .i64 hi2] 84))
  have HQ2 := Lib.hid (HQ1.out.below hb2')
  have HX2 := Lib.hid (obj_below HX1.out hb2')
  have HY2 : Hid ((w2.alloc (.cells #[.int .i64 n2, .int .i64 c2, .int .i64 f2, .int .i64 lo2, .int .i64 hi2] 84)).heap[w2.heap.size]? = some (.cells #[.int .i64 n2, .int .i64 c2, .int .i64 f2, .int .i64 lo2, .int .i64 hi2] 84)) := heap_alloc_new _ _
  clear hb2 hb2' HJ HQ1 HX1
  obtain ⟨⟨r0, r1, r2, r3, r4⟩, ⟨a0, a1, a2⟩, b0, b1, b2⟩ := HQ2.out.cells
  obtain ⟨x0, x1, x2, x3, x4⟩ := obj_cells5 HX2.out
  obtain ⟨y0, y1, y2, y3, y4⟩ := obj_cells5 HY2.out
  cases okA
  · have HE := Lib.hid (HR1.out rfl)
    go_wp2
    go_ret
    exact ⟨by rw [HE.out] <;> rfl, HQ2.out.1⟩
  · cases okB
    · have HE := Lib.hid (HR2.out rfl rfl)
      go_wp2
      go_ret
      exact ⟨by rw [HE.out] <;> rfl, HQ2.out.1⟩
    · rcases text_cases s with rfl | ⟨ts, tne⟩
      · skip
        rcases (by omega : n = 0 ∨ 0 < n) with rfl | hn0
        · have HE := Lib.hid (HR5.out rfl rfl rfl rfl)
          go_wp2_with fail
          clear r0 r1 r2 r3 r4 a0 a1 a2 b0 b1 b2 x0 x1 x2 x3 x4 y0 y1 y2 y3 y4
          generalize w2.alloc (.cells #[.int .i64 n2, .int .i64 c2, .int .i64 f2, .int .i64 lo2, .int .i64 hi2] 84) = W2 at *
          refine (HC.out _ HQ2.out.1).mono ?_
          rintro e w3 ⟨rfl, hb3⟩
          have HB3 := Lib.hid (hbt HQ2.out.1 hb3)
          clear hb3
          go_wp2
          go_ret
          exact ⟨by rw [HE.out] <;> rfl, HB3.out⟩
        · have HE := Lib.hid (HR4.out rfl rfl (by omega))
          go_wp2
          go_ret
          exact ⟨by rw [HE.out] <;> rfl, HQ2.out.1⟩
      · skip
        have HE := Lib.hid (HR3.out rfl rfl tne)
        clear tne
        go_wp2
        go_ret
        exact ⟨by rw [HE.out] <;> rfl, HQ2.out.1⟩
set_option maxRecDepth 100000 in
set_option maxHeartbeats 3200000 in
theorem rchk_5 (f t : Int) (s : ByteArray) (B : Option Addr) (n cP : Nat) (st v : Int) (A : Option Addr) (la ca : Nat) (st' v' : Int) (A' : Option Addr) (lb cb : Nat) (okA okB : Bool) (n1 c1 f1 lo1 hi1 n2 c2 f2 lo2 hi2 r R : Int) (w : World)
    (hI : ∀ W, Below w.heap.size w W → Calls Tryz.prog 69 #[.agg #[.int .i64 st, .int .i64 v, .slice A la ca], .int .i64 f, .bool false] W fun e w' => e = .returned (.tuple #[.agg #[.int .i64 n1, .int .i64 c1, .int .i64 f1, .int .i64 lo1, .int .i64 hi1], .bool okA]) ∧ Below W.heap.size W w')
    (hJ : ∀ W, Below w.heap.size w W → Calls Tryz.prog 69 #[.agg #[.int .i64 st', .int .i64 v', .slice A' lb cb], .int .i64 t, .bool false] W fun e w' => e = .returned (.tuple #[.agg #[.int .i64 n2, .int .i64 c2, .int .i64 f2, .int .i64 lo2, .int .i64 hi2], .bool okB]) ∧ Below W.heap.size W w')
    (hC : ∀ W, Below w.heap.size w W → Calls Tryz.prog 70 #[.agg #[.int .i64 5, .int .i64 f, .int .i64 t, .string s, .slice B n cP], .agg #[.int .i64 n1, .int .i64 c1, .int .i64 f1, .int .i64 lo1, .int .i64 hi1], .agg #[.int .i64 n2, .int .i64 c2, .int .i64 f2, .int .i64 lo2, .int .i64 hi2]] W fun e w' => e = .returned (.int .i64 r) ∧ Below W.heap.size W w')
    (h1 : okA = false → R = 9) (h2 : okA = true → okB = false → R = 9) (h3 : okA = true → okB = true → s ≠ ⟨#[]⟩ → R = 3) (h5 : okA = true → okB = true → s = ⟨#[]⟩ → R = r) :
    Calls Tryz.prog 48 #[.agg #[.int .i64 5, .int .i64 f, .int .i64 t, .string s, .slice B n cP], .agg #[.int .i64 st, .int .i64 v, .slice A la ca], .agg #[.int .i64 st', .int .i64 v', .slice A' lb cb]] w fun e w' => e = .returned (.int .i64 R) ∧ Below w.heap.size w w' := by
  have HR1 := Lib.hid h1
  have HR2 := Lib.hid h2
  have HR3 := Lib.hid h3
  have HR5 := Lib.hid h5
  have HI := Lib.hid hI
  have HJ := Lib.hid hJ
  have HC := Lib.hid hC
  have HQ0 := Lib.hid (rq_new w 5 f t s B n cP st v A la ca st' v' A' lb cb)
  clear h1 h2 h3 h5 hI hJ hC
  go_enter Tryz.func48, Tryz.ntmps48
  go_wp2_with fail
  generalize ((w.alloc (.cells #[.int .i64 5, .int .i64 f, .int .i64 t, .string s, .slice B n cP] 58)).alloc (.cells #[.int .i64 st, .int .i64 v, .slice A la ca] 28)).alloc (.cells #[.int .i64 st', .int .i64 v', .slice A' lb cb] 28) = U at *
  refine (HI.out _ HQ0.out.1).mono ?_
  rintro e w1 ⟨rfl, hb1⟩
  have hb1' := hbt hb1 (below_al w1 (.cells #[.int .i64 n1, .int .i64 c1, .int .i64 f1, .int .i64 lo1, .int .i64 hi1] 84))
  have HQ1 := Lib.hid (HQ0.out.below hb1')
  have HX1 : Hid ((w1.alloc (.cells #[.int .i64 n1, .int .i64 c1, .int .i64 f1, .int .i64 lo1, .int .i64 hi1] 84)).heap[w1.heap.size]? = some (.cells #[.int .i64 n1, .int .i64 c1, .int .i64 f1, .int .i64 lo1, .int .i64 hi1] 84)) := heap_alloc_new _ _
  clear hb1 hb1' HI HQ0
  obtain ⟨⟨r0, r1, r2, r3, r4⟩, ⟨a0, a1, a2⟩, b0, b1, b2⟩ := HQ1.out.cells
  go_wp2_with fail
  clear r0 r1 r2 r3 r4 a0 a1 a2 b0 b1 b2
  generalize w1.alloc (.cells #[.int .i64 n1, .int .i64 c1, .int .i64 f1, .int .i64 lo1, .int .i64 hi1] 84) = W1 at *
  generalize w1.heap.size = gx at *
  refine (HJ.out _ HQ1.out.1).mono ?_
  rintro e w2 ⟨rfl, hb2⟩
  have hb2' := hbt hb2 (below_al w2 (.cells #[.int .i64 n2, .int .i64 c2, .int .i64 f2, .int .i64 lo2, .int .i64 hi2] 84))
  have HQ2 := Lib.hid (HQ1.out.below hb2')
  have HX2 := Lib.hid (obj_below HX1.out hb2')
  have HY2 : Hid ((w2.alloc (.cells #[.int .i64 n2, .int .i64 c2, .int .i64 f2, .int .i64 lo2, .int .i64 hi2] 84)).heap[w2.heap.size]? = some (.cells #[.int .i64 n2, .int .i64 c2, .int .i64 f2, .int .i64 lo2, .int .i64 hi2] 84)) := heap_alloc_new _ _
  clear hb2 hb2' HJ HQ1 HX1
  obtain ⟨⟨r0, r1, r2, r3, r4⟩, ⟨a0, a1, a2⟩, b0, b1, b2⟩ := HQ2.out.cells
  obtain ⟨x0, x1, x2, x3, x4⟩ := obj_cells5 HX2.out
  obtain ⟨y0, y1, y2, y3, y4⟩ := obj_cells5 HY2.out
  cases okA
  · have HE := Lib.hid (HR1.out rfl)
    go_wp2
    go_ret
    exact ⟨by rw [HE.out] <;> rfl, HQ2.out.1⟩
  · cases okB
    · have HE := Lib.hid (HR2.out rfl rfl)
      go_wp2
      go_ret
      exact ⟨by rw [HE.out] <;> rfl, HQ2.out.1⟩
    · rcases text_cases s with rfl | ⟨ts, tne⟩
      · skip
        rcases (by omega : n = 0 ∨ 0 < n) with rfl | hn0
        · have HE := Lib.hid (HR5.out rfl rfl rfl)
          go_wp2_with fail
          clear r0 r1 r2 r3 r4 a0 a1 a2 b0 b1 b2 x0 x1 x2 x3 x4 y0 y1 y2 y3 y4
          generalize w2.alloc (.cells #[.int .i64 n2, .int .i64 c2, .int .i64 f2, .int .i64 lo2, .int .i64 hi2] 84) = W2 at *
          refine (HC.out _ HQ2.out.1).mono ?_
          rintro e w3 ⟨rfl, hb3⟩
          have HB3 := Lib.hid (hbt HQ2.out.1 hb3)
          clear hb3
          go_wp2
          go_ret
          exact ⟨by rw [HE.out] <;> rfl, HB3.out⟩
        · have HE := Lib.hid (HR5.out rfl rfl rfl)
          go_wp2_with fail
          clear r0 r1 r2 r3 r4 a0 a1 a2 b0 b1 b2 x0 x1 x2 x3 x4 y0 y1 y2 y3 y4
          generalize w2.alloc (.cells #[.int .i64 n2, .int .i64 c2, .int .i64 f2, .int .i64 lo2, .int .i64 hi2] 84) = W2 at *
          refine (HC.out _ HQ2.out.1).mono ?_
          rintro e w3 ⟨rfl, hb3⟩
          have HB3 := Lib.hid (hbt HQ2.out.1 hb3)
          clear hb3
          go_wp2
          go_ret
          exact ⟨by rw [HE.out] <;> rfl, HB3.out⟩
      · skip
        have HE := Lib.hid (HR3.out rfl rfl tne)
        clear tne
        go_wp2
        go_ret
        exact ⟨by rw [HE.out] <;> rfl, HQ2.out.1⟩
theorem rchk_any : RChk := by
  intro k f t s B cP P st v A ca a st' v' A' cb b w hK hP hA hB hla hlb hlP hf hs
  by_cases hk : k < 1 ∨ 5 < k
  · rw [rulN_arg hk]
    rcases hk with h | h
    · exact rchk_low k f t s B _ cP st v A _ ca st' v' A' _ cb w h
    · exact rchk_high k f t s B _ cP st v A _ ca st' v' A' _ cb w h
  · have N1 := fun h1 => rulN_from (f := f) (t := t) (s := s) (P := P) (a := a) (b := b) hk h1
    have N2 := fun h1 h2 => rulN_to (f := f) (t := t) (s := s) (P := P) (a := a) (b := b) hk h1 h2
    have N3 := fun h1 h2 h3 => rulN_form (f := f) (t := t) (s := s) (P := P) (a := a) (b := b) hk h1 h2 h3
    have N4 := fun h1 h2 h3 => rulN_kind (f := f) (t := t) (s := s) (P := P) (a := a) (b := b) hk h1 h2 h3
    rcases kind_cases hk with rfl | rfl | rfl | rfl | rfl
    · exact rchk_1 f t s B P.length cP st v A a.length ca st' v' A' b.length cb (fndP f a).2 (fndP t b).2 _ _ _ _ _ _ _ _ _ _ _ _ w (fun W h => rend_in st v A a ca f W (hA.below h) hla) (fun W h => rend_in st' v' A' b cb t W (hB.below h) hlb) (fun W h => rkind_1 f t s B P.length cP P _ _ _ _ _ _ _ _ _ _ W (hK.below h)) (fun p => N1 (by simpa [rlA] using p)) (fun p q => N2 (by simpa [rlA] using p) (by simpa [rlB] using q)) (fun p q h => N3 (by simpa [rlA] using p) (by simpa [rlB] using q) (by simp [rlC, noS, h])) (fun p q h => N3 (by simpa [rlA] using p) (by simpa [rlB] using q) (by simp [rlC, h])) (fun p q h h2 => N4 (by simpa [rlA] using p) (by simpa [rlB] using q) (by simp [rlC, noS, h, h2]))
    · exact rchk_2 f t s B P.length cP st v A a.length ca st' v' A' b.length cb (fndP f a).2 (t == 0) _ _ _ _ _ 0 0 0 0 0 _ _ w (fun W h => rend_in st v A a ca f W (hA.below h) hla) (fun W h => rend_out st' v' A' b.length cb t W) (fun W h => rkind_2 f t s B P.length cP P _ _ _ _ _ _ _ _ _ _ W) (fun p => N1 (by simpa [rlA] using p)) (fun p q => N2 (by simpa [rlA] using p) (by simpa [rlB] using q)) (fun p q h => N3 (by simpa [rlA] using p) (by simpa [rlB] using q) (by simp [rlC, noS, h])) (fun p q h => N3 (by simpa [rlA] using p) (by simpa [rlB] using q) (by simp [rlC, h])) (fun p q h h2 => N4 (by simpa [rlA] using p) (by simpa [rlB] using q) (by simp [rlC, noS, h, h2]))
    · exact rchk_3 f t s B P.length cP st v A a.length ca st' v' A' b.length cb (f == 0) (fndP t b).2 0 0 0 0 0 _ _ _ _ _ _ _ w (fun W h => rend_out st v A a.length ca f W) (fun W h => rend_in st' v' A' b cb t W (hB.below h) hlb) (fun W h => rkind_3 f t s B P.length cP P _ _ _ _ _ _ _ _ _ _ W (hK.below h) hs) (fun p => N1 (by simpa [rlA] using p)) (fun p q => N2 (by simpa [rlA] using p) (by simpa [rlB] using q)) (fun p q h => N3 (by simpa [rlA] using p) (by simpa [rlB] using q) (by simp [rlC, h])) (fun p q h2 => N4 (by simpa [rlA] using p) (by simpa [rlB] using q) (by simp [rlC, noS, h2]))
    · exact rchk_4 f t s B P.length cP st v A a.length ca st' v' A' b.length cb (fndP f a).2 (fndP t b).2 _ _ _ _ _ _ _ _ _ _ _ _ w (fun W h => rend_in st v A a ca f W (hA.below h) hla) (fun W h => rend_in st' v' A' b cb t W (hB.below h) hlb) (fun W h => rkind_4 f t s B P.length cP P _ _ _ _ _ _ _ _ _ _ W) (fun p => N1 (by simpa [rlA] using p)) (fun p q => N2 (by simpa [rlA] using p) (by simpa [rlB] using q)) (fun p q h => N3 (by simpa [rlA] using p) (by simpa [rlB] using q) (by simp [rlC, noS, h])) (fun p q h => N3 (by simpa [rlA] using p) (by simpa [rlB] using q) (by simp [rlC, h])) (fun p q h h2 => N4 (by simpa [rlA] using p) (by simpa [rlB] using q) (by simp [rlC, noS, h, h2]))
    · exact rchk_5 f t s B P.length cP st v A a.length ca st' v' A' b.length cb (fndP f a).2 (fndP t b).2 _ _ _ _ _ _ _ _ _ _ _ _ w (fun W h => rend_in st v A a ca f W (hA.below h) hla) (fun W h => rend_in st' v' A' b cb t W (hB.below h) hlb) (fun W h => rkind_5 f t s B P.length cP P _ _ _ _ _ _ _ _ _ _ W (hK.below h) (hP.below h) rfl hlP hf) (fun p => N1 (by simpa [rlA] using p)) (fun p q => N2 (by simpa [rlA] using p) (by simpa [rlB] using q)) (fun p q h => N3 (by simpa [rlA] using p) (by simpa [rlB] using q) (by simp [rlC, noS, h])) (fun p q h => N4 (by simpa [rlA] using p) (by simpa [rlB] using q) (by simp [rlC, noS, h]))

end Go.Proofs.YthheflgfbdcnlaaGreatDoor
