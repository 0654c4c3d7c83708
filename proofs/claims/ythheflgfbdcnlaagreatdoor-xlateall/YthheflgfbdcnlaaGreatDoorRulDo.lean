/-
  The program's Apply answers as the document asks, for every rule, in every world.
-/
import Derived.Test.YthheflgfbdcnlaaGreatDoorRulApp
import Derived.Test.YthheflgfbdcnlaaGreatDoorRulAwk
import Derived.Test.YthheflgfbdcnlaaGreatDoorPackSch
import Derived.Test.YthheflgfbdcnlaaGreatDoorPackDig
import Derived.Test.YthheflgfbdcnlaaGreatDoorPackCod
namespace Go.Proofs.YthheflgfbdcnlaaGreatDoor
open Go.RowKit

set_option maxRecDepth 100000 in
set_option maxHeartbeats 1600000 in
theorem rdo_1 (f t : Int) (s : ByteArray) (B : Option Addr) (cP : Nat) (P : List PairT) (st v : Int) (A : Option Addr) (ca : Nat) (b : List Sp) (x : ByteArray) (w : World) : Calls Tryz.prog 57 #[.agg #[.int .i64 1, .int .i64 f, .int .i64 t, .string s, .slice B P.length cP], .agg #[.int .i64 st, .int .i64 v, .slice A b.length ca], .string x] w fun e w' => e = .returned (.tuple #[.agg #[.int .i64 (rapN 1 t s P b x).1, .string (rapN 1 t s P b x).2.1], .int .i64 (rapN 1 t s P b x).2.2]) ∧ Below w.heap.size w w' := by
  rw [rap_1]
  generalize P.length = n
  generalize b.length = lb
  go_enter Tryz.func57, Tryz.ntmps57
  go_wp2
  refine bodyPost_ret (results_cell_row1 rfl _ _ (w.heap.size + 2) _ _ _ _ rfl (heap_al _ _ _ (by simp)) Tryz.underlying53 rfl (by kernel_rfl)) rfl ?_
  exact ⟨rfl, hbt (hbt (below_al _ _) (below_al _ _)) (below_al _ _)⟩
set_option maxRecDepth 100000 in
set_option maxHeartbeats 1600000 in
theorem rdo_2 (f t : Int) (s : ByteArray) (B : Option Addr) (cP : Nat) (P : List PairT) (st v : Int) (A : Option Addr) (ca : Nat) (b : List Sp) (x : ByteArray) (w : World) : Calls Tryz.prog 57 #[.agg #[.int .i64 2, .int .i64 f, .int .i64 t, .string s, .slice B P.length cP], .agg #[.int .i64 st, .int .i64 v, .slice A b.length ca], .string x] w fun e w' => e = .returned (.tuple #[.agg #[.int .i64 (rapN 2 t s P b x).1, .string (rapN 2 t s P b x).2.1], .int .i64 (rapN 2 t s P b x).2.2]) ∧ Below w.heap.size w w' := by
  rw [rap_2]
  generalize P.length = n
  generalize b.length = lb
  go_enter Tryz.func57, Tryz.ntmps57
  go_wp2
  refine bodyPost_ret (results_cell_row1 rfl _ _ (w.heap.size + 2) _ _ _ _ rfl (heap_al _ _ _ (by simp)) Tryz.underlying53 rfl (by kernel_rfl)) rfl ?_
  exact ⟨rfl, hbt (hbt (below_al _ _) (below_al _ _)) (below_al _ _)⟩
set_option maxRecDepth 100000 in
set_option maxHeartbeats 1600000 in
theorem rdo_3 (f t : Int) (s : ByteArray) (B : Option Addr) (cP : Nat) (P : List PairT) (st v : Int) (A : Option Addr) (ca : Nat) (b : List Sp) (x : ByteArray) (w : World) : Calls Tryz.prog 57 #[.agg #[.int .i64 3, .int .i64 f, .int .i64 t, .string s, .slice B P.length cP], .agg #[.int .i64 st, .int .i64 v, .slice A b.length ca], .string x] w fun e w' => e = .returned (.tuple #[.agg #[.int .i64 (rapN 3 t s P b x).1, .string (rapN 3 t s P b x).2.1], .int .i64 (rapN 3 t s P b x).2.2]) ∧ Below w.heap.size w w' := by
  rw [rap_3]
  generalize P.length = n
  generalize b.length = lb
  go_enter Tryz.func57, Tryz.ntmps57
  go_wp2
  refine bodyPost_ret (results_cell_row1 rfl _ _ (w.heap.size + 2) _ _ _ _ rfl (heap_al _ _ _ (by simp)) Tryz.underlying53 rfl (by kernel_rfl)) rfl ?_
  exact ⟨rfl, hbt (hbt (below_al _ _) (below_al _ _)) (below_al _ _)⟩
set_option maxRecDepth 100000 in
set_option maxHeartbeats 1600000 in
theorem rdo_low (k : Int) (f t : Int) (s : ByteArray) (B : Option Addr) (cP : Nat) (P : List PairT) (st v : Int) (A : Option Addr) (ca : Nat) (b : List Sp) (x : ByteArray) (w : World) (h : k < 1) : Calls Tryz.prog 57 #[.agg #[.int .i64 k, .int .i64 f, .int .i64 t, .string s, .slice B P.length cP], .agg #[.int .i64 st, .int .i64 v, .slice A b.length ca], .string x] w fun e w' => e = .returned (.tuple #[.agg #[.int .i64 (rapN k t s P b x).1, .string (rapN k t s P b x).2.1], .int .i64 (rapN k t s P b x).2.2]) ∧ Below w.heap.size w w' := by
  rw [rap_else (by omega)]
  have t1 : (k == 1) = false := by simp; omega
  have t2 : (k == 2) = false := by simp; omega
  have t3 : (k == 3) = false := by simp; omega
  have t4 : (k == 4) = false := by simp; omega
  have t5 : (k == 5) = false := by simp; omega
  clear h
  generalize P.length = n
  generalize b.length = lb
  go_enter Tryz.func57, Tryz.ntmps57
  go_wp2
  refine bodyPost_ret (results_cell_row1 rfl _ _ (w.heap.size + 2) _ _ _ _ rfl (heap_al _ _ _ (by simp)) Tryz.underlying53 rfl (by kernel_rfl)) rfl ?_
  exact ⟨rfl, hbt (hbt (below_al _ _) (below_al _ _)) (below_al _ _)⟩
set_option maxRecDepth 100000 in
set_option maxHeartbeats 1600000 in
theorem rdo_high (k : Int) (f t : Int) (s : ByteArray) (B : Option Addr) (cP : Nat) (P : List PairT) (st v : Int) (A : Option Addr) (ca : Nat) (b : List Sp) (x : ByteArray) (w : World) (h : 5 < k) : Calls Tryz.prog 57 #[.agg #[.int .i64 k, .int .i64 f, .int .i64 t, .string s, .slice B P.length cP], .agg #[.int .i64 st, .int .i64 v, .slice A b.length ca], .string x] w fun e w' => e = .returned (.tuple #[.agg #[.int .i64 (rapN k t s P b x).1, .string (rapN k t s P b x).2.1], .int .i64 (rapN k t s P b x).2.2]) ∧ Below w.heap.size w w' := by
  rw [rap_else (by omega)]
  have t1 : (k == 1) = false := by simp; omega
  have t2 : (k == 2) = false := by simp; omega
  have t3 : (k == 3) = false := by simp; omega
  have t4 : (k == 4) = false := by simp; omega
  have t5 : (k == 5) = false := by simp; omega
  clear h
  generalize P.length = n
  generalize b.length = lb
  go_enter Tryz.func57, Tryz.ntmps57
  go_wp2
  refine bodyPost_ret (results_cell_row1 rfl _ _ (w.heap.size + 2) _ _ _ _ rfl (heap_al _ _ _ (by simp)) Tryz.underlying53 rfl (by kernel_rfl)) rfl ?_
  exact ⟨rfl, hbt (hbt (below_al _ _) (below_al _ _)) (below_al _ _)⟩
set_option maxRecDepth 100000 in
set_option maxHeartbeats 3200000 in
theorem rrepad_any (t : Int) (s : ByteArray) (P : List PairT) (st v : Int) (A : Option Addr) (ca : Nat) (b : List Sp) (x : ByteArray) (w : World) (hB : Spl w A b) (hlb : b.length ≤ 1000) (hx : x.size ≤ maxLen) : Calls Tryz.prog 77 #[.int .i64 t, .agg #[.int .i64 st, .int .i64 v, .slice A b.length ca], .string x] w fun e w' => e = .returned (.tuple #[.agg #[.int .i64 (rapN 4 t s P b x).1, .string (rapN 4 t s P b x).2.1], .int .i64 (rapN 4 t s P b x).2.2]) ∧ Below w.heap.size w w' := by
  have HJ := Lib.hid (fun W h => sfind_any st v A ca b t W h hlb)
  have HB := Lib.hid hB
  have HD := Lib.hid (fun k W => pad_any x k W hx)
  have HR : Hid (rapN 4 t s P b x = if (fndP t b).2 = false then (0, noS, 9) else if padB x.data.toList (fndP t b).1.2.2.2.1 = false then (0, noS, 5) else (t, padS x.data.toList (fndP t b).1.2.2.2.1, 0)) := rap_4 _ _ _ _ _
  clear hB hx hlb
  generalize (fndP t b).2 = ok at *
  generalize (fndP t b).1 = y at *
  obtain ⟨n1, c1, f1', lo1, hi1⟩ := y
  dsimp only at HR HJ
  generalize b.length = lb at *
  have HB0 : Hid (Below w.heap.size w ((w.alloc (.cells #[.int .i64 st, .int .i64 v, .slice A lb ca] 28)).alloc (.cells #[.int .i64 0, .string ⟨#[]⟩] 53))) := hbt (below_al _ _) (below_al _ _)
  have HV0 : Hid (((w.alloc (.cells #[.int .i64 st, .int .i64 v, .slice A lb ca] 28)).alloc (.cells #[.int .i64 0, .string ⟨#[]⟩] 53)).heap[w.heap.size + 1]? = some (.cells #[.int .i64 0, .string ⟨#[]⟩] 53)) := heap_al _ _ _ (by simp)
  have HA0 : Hid (((w.alloc (.cells #[.int .i64 st, .int .i64 v, .slice A lb ca] 28)).alloc (.cells #[.int .i64 0, .string ⟨#[]⟩] 53)).heap[w.heap.size]? = some (.cells #[.int .i64 st, .int .i64 v, .slice A lb ca] 28)) := obj_below (heap_alloc_new _ _) (below_al _ _)
  go_enter Tryz.func77, Tryz.ntmps77
  go_wp2_with fail
  refine (HJ.out _ (HB.out.below HB0.out)).mono ?_
  rintro e w1 ⟨rfl, hb1⟩
  have hb1' := hbt hb1 (below_al w1 (.cells #[.int .i64 n1, .int .i64 c1, .int .i64 f1', .int .i64 lo1, .int .i64 hi1] 84))
  have HB1 := Lib.hid (hbt HB0.out hb1')
  have HV1 := Lib.hid (obj_below HV0.out hb1')
  clear hb1 hb1' HJ HB0 HV0 HA0
  obtain ⟨v0, v1, f0, f1⟩ := obj_cells HV1.out
  cases ok
  · have HE : Hid (rapN 4 t s P b x = (0, noS, 9)) := by show _ = _; rw [HR.out, if_pos rfl]
    go_wp2
    refine bodyPost_ret (results_cell_row1 rfl _ _ (w.heap.size + 1) _ _ _ _ rfl (obj_set2 HV1.out _ _) Tryz.underlying53 rfl (by kernel_rfl)) rfl ?_
    exact ⟨by rw [HE.out] <;> rfl, below_set2 HB1.out (by omega) _ _⟩
  · rw [if_neg (by simp)] at HR
    have HP2 := Lib.hid (fun W => HD.out lo1 W)
    cases hpad : padB x.data.toList lo1
    · have HE : Hid (rapN 4 t s P b x = (0, noS, 5)) := by show _ = _; rw [HR.out, if_pos hpad]
      rw [hpad, padS_no hpad] at HP2
      clear hpad
      go_wp2_with fail
      clear v0 v1 f0 f1
      generalize w1.alloc (.cells #[.int .i64 n1, .int .i64 c1, .int .i64 f1', .int .i64 lo1, .int .i64 hi1] 84) = W1 at *
      refine (HP2.out _).mono ?_
      rintro e w2 ⟨rfl, hb2⟩
      have HB2 := Lib.hid (hbt HB1.out hb2)
      have HV2 := Lib.hid (obj_below HV1.out hb2)
      clear hb2
      obtain ⟨v0, v1, f0, f1⟩ := obj_cells HV2.out
      go_wp2
      refine bodyPost_ret (results_cell_row1 rfl _ _ (w.heap.size + 1) _ _ _ _ rfl (obj_set2 HV2.out _ _) Tryz.underlying53 rfl (by kernel_rfl)) rfl ?_
      exact ⟨by rw [HE.out] <;> rfl, below_set2 HB2.out (by omega) _ _⟩
    · have HE : Hid (rapN 4 t s P b x = (t, padS x.data.toList lo1, 0)) := by show _ = _; rw [HR.out, if_neg (by simp [hpad])]
      rw [hpad] at HP2
      generalize padS x.data.toList lo1 = y at *
      clear hpad HR
      go_wp2_with fail
      clear v0 v1 f0 f1
      generalize w1.alloc (.cells #[.int .i64 n1, .int .i64 c1, .int .i64 f1', .int .i64 lo1, .int .i64 hi1] 84) = W1 at *
      refine (HP2.out _).mono ?_
      rintro e w2 ⟨rfl, hb2⟩
      have HB2 := Lib.hid (hbt HB1.out hb2)
      have HV2 := Lib.hid (obj_below HV1.out hb2)
      clear hb2
      obtain ⟨v0, v1, f0, f1⟩ := obj_cells HV2.out
      go_wp2
      refine bodyPost_ret (results_cell_row1 rfl _ _ (w.heap.size + 1) _ _ _ _ rfl (obj_set2 HV2.out _ _) Tryz.underlying53 rfl (by kernel_rfl)) rfl ?_
      exact ⟨by rw [HE.out] <;> rfl, below_set2 HB2.out (by omega) _ _⟩
set_option maxRecDepth 100000 in
set_option maxHeartbeats 3200000 in
theorem rlook_any (t : Int) (s : ByteArray) (B : Option Addr) (cP : Nat) (P : List PairT) (b : List Sp) (x : ByteArray) (w : World) (hP : Prs w B P) (hlP : P.length ≤ 5000000) : Calls Tryz.prog 78 #[.int .i64 t, .slice B P.length cP, .string x] w fun e w' => e = .returned (.tuple #[.agg #[.int .i64 (rapN 5 t s P b x).1, .string (rapN 5 t s P b x).2.1], .int .i64 (rapN 5 t s P b x).2.2]) ∧ Below w.heap.size w w' := by
  have HP := Lib.hid hP
  have HT := Lib.hid (fun W h => capply_any B cP P x W h hlP)
  have HR : Hid (rapN 5 t s P b x = if appB P x = false then (0, noS, 15) else (t, appS P x, 0)) := rap_5 _ _ _ _ _
  clear hP hlP
  generalize P.length = n at *
  have HV0 : Hid ((w.alloc (.cells #[.int .i64 0, .string ⟨#[]⟩] 53)).heap[w.heap.size]? = some (.cells #[.int .i64 0, .string ⟨#[]⟩] 53)) := heap_alloc_new _ _
  go_enter Tryz.func78, Tryz.ntmps78
  go_wp2_with fail
  refine (HT.out _ (HP.out.below (below_al _ _))).mono ?_
  rintro e w1 ⟨rfl, hb1⟩
  have HB1 := Lib.hid (hbt (below_al _ _) hb1)
  have HV1 := Lib.hid (obj_below HV0.out hb1)
  clear hb1 HV0
  obtain ⟨v0, v1, f0, f1⟩ := obj_cells HV1.out
  cases hap : appB P x
  · have HE : Hid (rapN 5 t s P b x = (0, noS, 15)) := by show _ = _; rw [HR.out, if_pos hap]
    rw [app_none hap]
    clear hap HT
    go_wp2
    refine bodyPost_ret (results_cell_row1 rfl _ _ w.heap.size _ _ _ _ rfl (obj_set2 HV1.out _ _) Tryz.underlying53 rfl (by kernel_rfl)) rfl ?_
    exact ⟨by rw [HE.out] <;> rfl, below_set2 HB1.out (by omega) _ _⟩
  · have HE : Hid (rapN 5 t s P b x = (t, appS P x, 0)) := by show _ = _; rw [HR.out, if_neg (by simp [hap])]
    generalize appS P x = y at *
    clear hap HT HR
    go_wp2
    refine bodyPost_ret (results_cell_row1 rfl _ _ w.heap.size _ _ _ _ rfl (obj_set2 HV1.out _ _) Tryz.underlying53 rfl (by kernel_rfl)) rfl ?_
    exact ⟨by rw [HE.out] <;> rfl, below_set2 HB1.out (by omega) _ _⟩
set_option maxRecDepth 100000 in
set_option maxHeartbeats 3200000 in
theorem rdo_4 (f t : Int) (s : ByteArray) (B : Option Addr) (cP : Nat) (P : List PairT) (st v : Int) (A : Option Addr) (ca : Nat) (b : List Sp) (x : ByteArray) (w : World) (hB : Spl w A b) (hlb : b.length ≤ 1000) (hx : x.size ≤ maxLen) : Calls Tryz.prog 57 #[.agg #[.int .i64 4, .int .i64 f, .int .i64 t, .string s, .slice B P.length cP], .agg #[.int .i64 st, .int .i64 v, .slice A b.length ca], .string x] w fun e w' => e = .returned (.tuple #[.agg #[.int .i64 (rapN 4 t s P b x).1, .string (rapN 4 t s P b x).2.1], .int .i64 (rapN 4 t s P b x).2.2]) ∧ Below w.heap.size w w' := by
  have HC := Lib.hid (fun W h => rrepad_any t s P st v A ca b x W h hlb hx)
  have HX := Lib.hid hB
  clear hB hlb hx
  have HQ0 := Lib.hid (ra_new w 4 f t s B P.length cP st v A b.length ca)
  generalize rapN 4 t s P b x = r at *
  obtain ⟨r1, r2, r3⟩ := r
  generalize P.length = n at *
  generalize b.length = lb at *
  go_enter Tryz.func57, Tryz.ntmps57
  go_wp2_with fail
  refine (HC.out _ (HX.out.below HQ0.out.1)).mono ?_
  rintro e w1 ⟨rfl, hb1⟩
  have HQ1 := Lib.hid (HQ0.out.below hb1)
  clear hb1 HQ0
  obtain ⟨_, _, v0, v1, f0, f1⟩ := HQ1.out.cells
  go_wp2
  refine bodyPost_ret (results_cell_row1 rfl _ _ (w.heap.size + 2) _ _ _ _ rfl (obj_set2 HQ1.out.2.2.2 _ _) Tryz.underlying53 rfl (by kernel_rfl)) rfl ?_
  exact ⟨rfl, below_set2 HQ1.out.1 (by omega) _ _⟩
set_option maxRecDepth 100000 in
set_option maxHeartbeats 3200000 in
theorem rdo_5 (f t : Int) (s : ByteArray) (B : Option Addr) (cP : Nat) (P : List PairT) (st v : Int) (A : Option Addr) (ca : Nat) (b : List Sp) (x : ByteArray) (w : World) (hP : Prs w B P) (hlP : P.length ≤ 5000000) : Calls Tryz.prog 57 #[.agg #[.int .i64 5, .int .i64 f, .int .i64 t, .string s, .slice B P.length cP], .agg #[.int .i64 st, .int .i64 v, .slice A b.length ca], .string x] w fun e w' => e = .returned (.tuple #[.agg #[.int .i64 (rapN 5 t s P b x).1, .string (rapN 5 t s P b x).2.1], .int .i64 (rapN 5 t s P b x).2.2]) ∧ Below w.heap.size w w' := by
  have HC := Lib.hid (fun W h => rlook_any t s B cP P b x W h hlP)
  have HX := Lib.hid hP
  clear hP hlP
  have HQ0 := Lib.hid (ra_new w 5 f t s B P.length cP st v A b.length ca)
  generalize rapN 5 t s P b x = r at *
  obtain ⟨r1, r2, r3⟩ := r
  generalize P.length = n at *
  generalize b.length = lb at *
  go_enter Tryz.func57, Tryz.ntmps57
  go_wp2_with fail
  refine (HC.out _ (HX.out.below HQ0.out.1)).mono ?_
  rintro e w1 ⟨rfl, hb1⟩
  have HQ1 := Lib.hid (HQ0.out.below hb1)
  clear hb1 HQ0
  obtain ⟨_, _, v0, v1, f0, f1⟩ := HQ1.out.cells
  go_wp2
  refine bodyPost_ret (results_cell_row1 rfl _ _ (w.heap.size + 2) _ _ _ _ rfl (obj_set2 HQ1.out.2.2.2 _ _) Tryz.underlying53 rfl (by kernel_rfl)) rfl ?_
  exact ⟨rfl, below_set2 HQ1.out.1 (by omega) _ _⟩
theorem rapp_any : RApp := by
  intro k f t s B cP P st v A ca b x w _ hP hB hlb hlP _ _ hx
  by_cases hk : k < 1 ∨ 5 < k
  · rcases hk with h | h
    · exact rdo_low k f t s B cP P st v A ca b x w h
    · exact rdo_high k f t s B cP P st v A ca b x w h
  · rcases kind_cases hk with rfl | rfl | rfl | rfl | rfl
    · exact rdo_1 f t s B cP P st v A ca b x w
    · exact rdo_2 f t s B cP P st v A ca b x w
    · exact rdo_3 f t s B cP P st v A ca b x w
    · exact rdo_4 f t s B cP P st v A ca b x w hB hlb hx
    · exact rdo_5 f t s B cP P st v A ca b x w hP hlP

end Go.Proofs.YthheflgfbdcnlaaGreatDoor
