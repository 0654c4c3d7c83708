/-
  What the document's Apply of a rule, its Great and its Copy answer: for every rule, in every world.
-/
import Derived.Test.YthheflgfbdcnlaaGreatDoorRulOf
import Derived.Test.YthheflgfbdcnlaaGreatDoorPackSch
import Derived.Test.YthheflgfbdcnlaaGreatDoorPackDig
import Derived.Test.YthheflgfbdcnlaaGreatDoorPackCod
namespace Go.Proofs.YthheflgfbdcnlaaGreatDoor
open Go.RowKit

/-- A rule, a schema, and a value's room. -/
def RA (w : World) (k f t : Int) (s : ByteArray) (B : Option Addr) (n c : Nat) (st v : Int) (A : Option Addr) (la ca : Nat) (u : World) : Prop :=
  Below w.heap.size w u ∧ RBox u w.heap.size k f t s B n c ∧ Box u (w.heap.size + 1) st v A la ca ∧ u.heap[w.heap.size + 2]? = some (.cells #[.int .i64 0, .string ⟨#[]⟩] 53)
theorem RA.below {w : World} {k f t : Int} {s : ByteArray} {B : Option Addr} {n c : Nat} {st v : Int} {A : Option Addr} {la ca : Nat} {u u' : World} (h : RA w k f t s B n c st v A la ca u) (hb : Below u.heap.size u u') : RA w k f t s B n c st v A la ca u' :=
  ⟨hbt h.1 hb, h.2.1.below hb, h.2.2.1.below hb, obj_below h.2.2.2 hb⟩
theorem ra_new (w : World) (k f t : Int) (s : ByteArray) (B : Option Addr) (n c : Nat) (st v : Int) (A : Option Addr) (la ca : Nat) :
    RA w k f t s B n c st v A la ca (((w.alloc (.cells #[.int .i64 k, .int .i64 f, .int .i64 t, .string s, .slice B n c] 58)).alloc (.cells #[.int .i64 st, .int .i64 v, .slice A la ca] 28)).alloc (.cells #[.int .i64 0, .string ⟨#[]⟩] 53)) :=
  ⟨hbt (hbt (below_al _ _) (below_al _ _)) (below_al _ _), obj_below (obj_below (heap_alloc_new _ _) (below_al _ _)) (below_al _ _), obj_below (heap_al _ _ _ (by simp)) (below_al _ _), heap_al _ _ _ (by simp)⟩
/-- The cells of the three. -/
theorem RA.cells {w : World} {k f t : Int} {s : ByteArray} {B : Option Addr} {n c : Nat} {st v : Int} {A : Option Addr} {la ca : Nat} {u : World} (h : RA w k f t s B n c st v A la ca u) :
    (u.cell? ⟨w.heap.size, 0, none⟩ = some (.int .i64 k) ∧ u.cell? ⟨w.heap.size, 1, none⟩ = some (.int .i64 f) ∧ u.cell? ⟨w.heap.size, 2, none⟩ = some (.int .i64 t) ∧ u.cell? ⟨w.heap.size, 3, none⟩ = some (.string s) ∧ u.cell? ⟨w.heap.size, 4, none⟩ = some (.slice B n c)) ∧
    (u.cell? ⟨w.heap.size + 1, 0, none⟩ = some (.int .i64 st) ∧ u.cell? ⟨w.heap.size + 1, 1, none⟩ = some (.int .i64 v) ∧ u.cell? ⟨w.heap.size + 1, 2, none⟩ = some (.slice A la ca)) ∧
    u.cell? ⟨w.heap.size + 2, 0, none⟩ = some (.int .i64 0) ∧ u.cell? ⟨w.heap.size + 2, 1, none⟩ = some (.string ⟨#[]⟩) ∧ u.frozen? ⟨w.heap.size + 2, 0, none⟩ = false ∧ u.frozen? ⟨w.heap.size + 2, 1, none⟩ = false := by
  obtain ⟨_, h1, h2, h3⟩ := h
  exact ⟨obj_cells5 h1, obj_cells3 h2, obj_cells h3⟩

set_option maxRecDepth 100000 in
set_option maxHeartbeats 1600000 in
theorem rpref_1 (f t : Int) (s : ByteArray) (B : Option Addr) (cP : Nat) (P : List PairT) (st v : Int) (A : Option Addr) (ca : Nat) (b : List Sp) (x : ByteArray) (w : World) : Calls Tryz.prog 38 #[.agg #[.int .i64 1, .int .i64 f, .int .i64 t, .string s, .slice B P.length cP], .agg #[.int .i64 st, .int .i64 v, .slice A b.length ca], .string x] w fun e w' => e = .returned (.tuple #[.agg #[.int .i64 (rapN 1 t s P b x).1, .string (rapN 1 t s P b x).2.1], .int .i64 (rapN 1 t s P b x).2.2]) ∧ Below w.heap.size w w' := by
  rw [rap_1]
  generalize P.length = n
  generalize b.length = lb
  go_enter Tryz.func38, Tryz.ntmps38
  go_wp2
  refine bodyPost_ret (results_cell_row1 rfl _ _ (w.heap.size + 2) _ _ _ _ rfl (heap_al _ _ _ (by simp)) Tryz.underlying53 rfl (by kernel_rfl)) rfl ?_
  exact ⟨rfl, hbt (hbt (below_al _ _) (below_al _ _)) (below_al _ _)⟩
set_option maxRecDepth 100000 in
set_option maxHeartbeats 1600000 in
theorem rpref_2 (f t : Int) (s : ByteArray) (B : Option Addr) (cP : Nat) (P : List PairT) (st v : Int) (A : Option Addr) (ca : Nat) (b : List Sp) (x : ByteArray) (w : World) : Calls Tryz.prog 38 #[.agg #[.int .i64 2, .int .i64 f, .int .i64 t, .string s, .slice B P.length cP], .agg #[.int .i64 st, .int .i64 v, .slice A b.length ca], .string x] w fun e w' => e = .returned (.tuple #[.agg #[.int .i64 (rapN 2 t s P b x).1, .string (rapN 2 t s P b x).2.1], .int .i64 (rapN 2 t s P b x).2.2]) ∧ Below w.heap.size w w' := by
  rw [rap_2]
  generalize P.length = n
  generalize b.length = lb
  go_enter Tryz.func38, Tryz.ntmps38
  go_wp2
  refine bodyPost_ret (results_cell_row1 rfl _ _ (w.heap.size + 2) _ _ _ _ rfl (heap_al _ _ _ (by simp)) Tryz.underlying53 rfl (by kernel_rfl)) rfl ?_
  exact ⟨rfl, hbt (hbt (below_al _ _) (below_al _ _)) (below_al _ _)⟩
set_option maxRecDepth 100000 in
set_option maxHeartbeats 1600000 in
theorem rpref_3 (f t : Int) (s : ByteArray) (B : Option Addr) (cP : Nat) (P : List PairT) (st v : Int) (A : Option Addr) (ca : Nat) (b : List Sp) (x : ByteArray) (w : World) : Calls Tryz.prog 38 #[.agg #[.int .i64 3, .int .i64 f, .int .i64 t, .string s, .slice B P.length cP], .agg #[.int .i64 st, .int .i64 v, .slice A b.length ca], .string x] w fun e w' => e = .returned (.tuple #[.agg #[.int .i64 (rapN 3 t s P b x).1, .string (rapN 3 t s P b x).2.1], .int .i64 (rapN 3 t s P b x).2.2]) ∧ Below w.heap.size w w' := by
  rw [rap_3]
  generalize P.length = n
  generalize b.length = lb
  go_enter Tryz.func38, Tryz.ntmps38
  go_wp2
  refine bodyPost_ret (results_cell_row1 rfl _ _ (w.heap.size + 2) _ _ _ _ rfl (heap_al _ _ _ (by simp)) Tryz.underlying53 rfl (by kernel_rfl)) rfl ?_
  exact ⟨rfl, hbt (hbt (below_al _ _) (below_al _ _)) (below_al _ _)⟩
set_option maxRecDepth 100000 in
set_option maxHeartbeats 1600000 in
theorem rpref_low (k : Int) (f t : Int) (s : ByteArray) (B : Option Addr) (cP : Nat) (P : List PairT) (st v : Int) (A : Option Addr) (ca : Nat) (b : List Sp) (x : ByteArray) (w : World) (h : k < 1) : Calls Tryz.prog 38 #[.agg #[.int .i64 k, .int .i64 f, .int .i64 t, .string s, .slice B P.length cP], .agg #[.int .i64 st, .int .i64 v, .slice A b.length ca], .string x] w fun e w' => e = .returned (.tuple #[.agg #[.int .i64 (rapN k t s P b x).1, .string (rapN k t s P b x).2.1], .int .i64 (rapN k t s P b x).2.2]) ∧ Below w.heap.size w w' := by
  rw [rap_else (by omega)]
  have t1 : (k == 1) = false := by simp; omega
  have t2 : (k == 2) = false := by simp; omega
  have t3 : (k == 3) = false := by simp; omega
  have t4 : (k == 4) = false := by simp; omega
  have t5 : (k == 5) = false := by simp; omega
  clear h
  generalize P.length = n
  generalize b.length = lb
  go_enter Tryz.func38, Tryz.ntmps38
  go_wp2
  refine bodyPost_ret (results_cell_row1 rfl _ _ (w.heap.size + 2) _ _ _ _ rfl (heap_al _ _ _ (by simp)) Tryz.underlying53 rfl (by kernel_rfl)) rfl ?_
  exact ⟨rfl, hbt (hbt (below_al _ _) (below_al _ _)) (below_al _ _)⟩
set_option maxRecDepth 100000 in
set_option maxHeartbeats 1600000 in
theorem rpref_high (k : Int) (f t : Int) (s : ByteArray) (B : Option Addr) (cP : Nat) (P : List PairT) (st v : Int) (A : Option Addr) (ca : Nat) (b : List Sp) (x : ByteArray) (w : World) (h : 5 < k) : Calls Tryz.prog 38 #[.agg #[.int .i64 k, .int .i64 f, .int .i64 t, .string s, .slice B P.length cP], .agg #[.int .i64 st, .int .i64 v, .slice A b.length ca], .string x] w fun e w' => e = .returned (.tuple #[.agg #[.int .i64 (rapN k t s P b x).1, .string (rapN k t s P b x).2.1], .int .i64 (rapN k t s P b x).2.2]) ∧ Below w.heap.size w w' := by
  rw [rap_else (by omega)]
  have t1 : (k == 1) = false := by simp; omega
  have t2 : (k == 2) = false := by simp; omega
  have t3 : (k == 3) = false := by simp; omega
  have t4 : (k == 4) = false := by simp; omega
  have t5 : (k == 5) = false := by simp; omega
  clear h
  generalize P.length = n
  generalize b.length = lb
  go_enter Tryz.func38, Tryz.ntmps38
  go_wp2
  refine bodyPost_ret (results_cell_row1 rfl _ _ (w.heap.size + 2) _ _ _ _ rfl (heap_al _ _ _ (by simp)) Tryz.underlying53 rfl (by kernel_rfl)) rfl ?_
  exact ⟨rfl, hbt (hbt (below_al _ _) (below_al _ _)) (below_al _ _)⟩
set_option maxRecDepth 100000 in
set_option maxHeartbeats 3200000 in
theorem rpref_4 (f t : Int) (s : ByteArray) (B : Option Addr) (cP : Nat) (P : List PairT) (st v : Int) (A : Option Addr) (ca : Nat) (b : List Sp) (x : ByteArray) (w : World) (hB : Spl w A b) (hlb : b.length ≤ 1000) (hx : x.size ≤ maxLen) : Calls Tryz.prog 38 #[.agg #[.int .i64 4, .int .i64 f, .int .i64 t, .string s, .slice B P.length cP], .agg #[.int .i64 st, .int .i64 v, .slice A b.length ca], .string x] w fun e w' => e = .returned (.tuple #[.agg #[.int .i64 (rapN 4 t s P b x).1, .string (rapN 4 t s P b x).2.1], .int .i64 (rapN 4 t s P b x).2.2]) ∧ Below w.heap.size w w' := by
  have HJ := Lib.hid (fun W h => sreffind_any st v A ca b t W h hlb)
  have HQ0 := Lib.hid (ra_new w 4 f t s B P.length cP st v A b.length ca)
  have HB := Lib.hid hB
  have HD := Lib.hid (fun k W => refPad_any x k W hx)
  have HR : Hid (rapN 4 t s P b x = if (fndP t b).2 = false then (0, noS, 9) else if padB x.data.toList (fndP t b).1.2.2.2.1 = false then (0, noS, 5) else (t, padS x.data.toList (fndP t b).1.2.2.2.1, 0)) := rap_4 _ _ _ _ _
  clear hB hx
  generalize hlenP : P.length = n at *
  generalize hlenb : b.length = lb at *
  have HLB := Lib.hid hlenb
  clear hlenP hlenb
  go_enter Tryz.func38, Tryz.ntmps38
  go_wp2_with fail
  generalize ((w.alloc (.cells #[.int .i64 4, .int .i64 f, .int .i64 t, .string s, .slice B n cP] 58)).alloc (.cells #[.int .i64 st, .int .i64 v, .slice A lb ca] 28)).alloc (.cells #[.int .i64 0, .string ⟨#[]⟩] 53) = U at *
  refine (HJ.out _ (HB.out.below HQ0.out.1)).mono ?_
  rintro e w1 ⟨rfl, hb1⟩
  have HQ1 := Lib.hid (HQ0.out.below hb1)
  clear hb1 HJ HQ0
  obtain ⟨⟨r0, r1, r2, r3, r4⟩, ⟨a0, a1, a2⟩, v0, v1, f0, f1⟩ := HQ1.out.cells
  rcases fnd_cases t b with ⟨hj, hj2⟩ | ⟨j, hjl, hj, hj2⟩
  · have HE : Hid (rapN 4 t s P b x = (0, noS, 9)) := by show _ = _; rw [HR.out, if_pos hj2]
    rw [hj]
    clear hj hj2
    go_wp2
    refine bodyPost_ret (results_cell_row1 rfl _ _ (w.heap.size + 2) _ _ _ _ rfl (obj_set2 HQ1.out.2.2.2 _ _) Tryz.underlying53 rfl (by kernel_rfl)) rfl ?_
    exact ⟨by rw [HE.out] <;> rfl, below_set2 HQ1.out.1 (by omega) _ _⟩
  · rw [hj]
    have hj63 : j < lb := by have := HLB.out; omega
    obtain ⟨aa, n1, c1, f1', lo1, hi1, rfl, hxa, hca⟩ := spl_all HB.out hjl
    obtain ⟨x0, x1, x2, x3, x4⟩ := hca _ HQ1.out.1
    rw [hj2, if_neg (by simp), hxa] at HR
    dsimp only at HR
    have HP2 := Lib.hid (fun W => HD.out lo1 W)
    clear hj hj2 hca hxa hjl
    cases hpad : padB x.data.toList lo1
    · have HE : Hid (rapN 4 t s P b x = (0, noS, 5)) := by show _ = _; rw [HR.out, if_pos hpad]
      rw [hpad, padS_no hpad] at HP2
      clear hpad
      go_wp2_with fail
      refine (HP2.out _).mono ?_
      rintro e w2 ⟨rfl, rfl⟩
      go_wp2
      refine bodyPost_ret (results_cell_row1 rfl _ _ (w.heap.size + 2) _ _ _ _ rfl (obj_set2 HQ1.out.2.2.2 _ _) Tryz.underlying53 rfl (by kernel_rfl)) rfl ?_
      exact ⟨by rw [HE.out] <;> rfl, below_set2 HQ1.out.1 (by omega) _ _⟩
    · have HE : Hid (rapN 4 t s P b x = (t, padS x.data.toList lo1, 0)) := by show _ = _; rw [HR.out, if_neg (by simp [hpad])]
      rw [hpad] at HP2
      generalize padS x.data.toList lo1 = y at *
      clear hpad HR
      go_wp2_with fail
      refine (HP2.out _).mono ?_
      rintro e w2 ⟨rfl, rfl⟩
      go_wp2
      refine bodyPost_ret (results_cell_row1 rfl _ _ (w.heap.size + 2) _ _ _ _ rfl (obj_set2 HQ1.out.2.2.2 _ _) Tryz.underlying53 rfl (by kernel_rfl)) rfl ?_
      exact ⟨by rw [HE.out] <;> rfl, below_set2 HQ1.out.1 (by omega) _ _⟩
set_option maxRecDepth 100000 in
set_option maxHeartbeats 3200000 in
theorem rpref_5 (f t : Int) (s : ByteArray) (B : Option Addr) (cP : Nat) (P : List PairT) (st v : Int) (A : Option Addr) (ca : Nat) (b : List Sp) (x : ByteArray) (w : World) (hP : Prs w B P) (hlP : P.length ≤ 5000000) : Calls Tryz.prog 38 #[.agg #[.int .i64 5, .int .i64 f, .int .i64 t, .string s, .slice B P.length cP], .agg #[.int .i64 st, .int .i64 v, .slice A b.length ca], .string x] w fun e w' => e = .returned (.tuple #[.agg #[.int .i64 (rapN 5 t s P b x).1, .string (rapN 5 t s P b x).2.1], .int .i64 (rapN 5 t s P b x).2.2]) ∧ Below w.heap.size w w' := by
  have HQ0 := Lib.hid (ra_new w 5 f t s B P.length cP st v A b.length ca)
  have HP := Lib.hid hP
  have HT := Lib.hid (fun W h => crapply_any B cP P x W h hlP)
  have HR : Hid (rapN 5 t s P b x = if appB P x = false then (0, noS, 15) else (t, appS P x, 0)) := rap_5 _ _ _ _ _
  clear hP hlP
  generalize hlenP : P.length = n at *
  generalize hlenb : b.length = lb at *
  clear hlenP hlenb
  go_enter Tryz.func38, Tryz.ntmps38
  go_wp2_with fail
  generalize ((w.alloc (.cells #[.int .i64 5, .int .i64 f, .int .i64 t, .string s, .slice B n cP] 58)).alloc (.cells #[.int .i64 st, .int .i64 v, .slice A lb ca] 28)).alloc (.cells #[.int .i64 0, .string ⟨#[]⟩] 53) = U at *
  refine (HT.out _ (HP.out.below HQ0.out.1)).mono ?_
  rintro e w1 ⟨rfl, rfl⟩
  obtain ⟨⟨r0, r1, r2, r3, r4⟩, ⟨a0, a1, a2⟩, v0, v1, f0, f1⟩ := HQ0.out.cells
  cases hap : appB P x
  · have HE : Hid (rapN 5 t s P b x = (0, noS, 15)) := by show _ = _; rw [HR.out, if_pos hap]
    rw [app_none hap]
    clear hap HT
    go_wp2
    refine bodyPost_ret (results_cell_row1 rfl _ _ (w.heap.size + 2) _ _ _ _ rfl (obj_set2 HQ0.out.2.2.2 _ _) Tryz.underlying53 rfl (by kernel_rfl)) rfl ?_
    exact ⟨by rw [HE.out] <;> rfl, below_set2 HQ0.out.1 (by omega) _ _⟩
  · have HE : Hid (rapN 5 t s P b x = (t, appS P x, 0)) := by show _ = _; rw [HR.out, if_neg (by simp [hap])]
    generalize appS P x = y at *
    clear hap HT HR
    go_wp2
    refine bodyPost_ret (results_cell_row1 rfl _ _ (w.heap.size + 2) _ _ _ _ rfl (obj_set2 HQ0.out.2.2.2 _ _) Tryz.underlying53 rfl (by kernel_rfl)) rfl ?_
    exact ⟨by rw [HE.out] <;> rfl, below_set2 HQ0.out.1 (by omega) _ _⟩
theorem rpref_any (k : Int) (f t : Int) (s : ByteArray) (B : Option Addr) (cP : Nat) (P : List PairT) (st v : Int) (A : Option Addr) (ca : Nat) (b : List Sp) (x : ByteArray) (w : World) (hP : Prs w B P) (hB : Spl w A b) (hlb : b.length ≤ 1000) (hlP : P.length ≤ 5000000) (hx : x.size ≤ maxLen) : Calls Tryz.prog 38 #[.agg #[.int .i64 k, .int .i64 f, .int .i64 t, .string s, .slice B P.length cP], .agg #[.int .i64 st, .int .i64 v, .slice A b.length ca], .string x] w fun e w' => e = .returned (.tuple #[.agg #[.int .i64 (rapN k t s P b x).1, .string (rapN k t s P b x).2.1], .int .i64 (rapN k t s P b x).2.2]) ∧ Below w.heap.size w w' := by
  by_cases hk : k < 1 ∨ 5 < k
  · rcases hk with h | h
    · exact rpref_low k f t s B cP P st v A ca b x w h
    · exact rpref_high k f t s B cP P st v A ca b x w h
  · rcases kind_cases hk with rfl | rfl | rfl | rfl | rfl
    · exact rpref_1 f t s B cP P st v A ca b x w
    · exact rpref_2 f t s B cP P st v A ca b x w
    · exact rpref_3 f t s B cP P st v A ca b x w
    · exact rpref_4 f t s B cP P st v A ca b x w hB hlb hx
    · exact rpref_5 f t s B cP P st v A ca b x w hP hlP
set_option maxRecDepth 100000 in
set_option maxHeartbeats 1600000 in
theorem rgreat_long (k f t : Int) (s : ByteArray) (B : Option Addr) (n cP : Nat) (w : World) (hs : s.size ≤ maxLen) (h : 1200 < s.size) : Calls Tryz.prog 43 #[.agg #[.int .i64 k, .int .i64 f, .int .i64 t, .string s, .slice B n cP]] w fun e w' => e = .returned (.bool true) ∧ Below w.heap.size w w' := by
  unfold maxLen at hs
  go_enter Tryz.func43, Tryz.ntmps43
  go_wp2
  go_ret
  exact ⟨rfl, below_al _ _⟩
set_option maxRecDepth 100000 in
set_option maxHeartbeats 1600000 in
theorem rgreat_many (k f t : Int) (s : ByteArray) (B : Option Addr) (n cP : Nat) (w : World) (hs : s.size ≤ 1200) (hn : n ≤ maxLen) (h : 300 < n) : Calls Tryz.prog 43 #[.agg #[.int .i64 k, .int .i64 f, .int .i64 t, .string s, .slice B n cP]] w fun e w' => e = .returned (.bool true) ∧ Below w.heap.size w w' := by
  unfold maxLen at hn
  go_enter Tryz.func43, Tryz.ntmps43
  go_wp2
  go_ret
  exact ⟨rfl, below_al _ _⟩
set_option maxRecDepth 100000 in
set_option maxHeartbeats 3200000 in
theorem rgreat_short (k f t : Int) (s : ByteArray) (B : Option Addr) (cP : Nat) (P : List PairT) (w : World) (hP : Prs w B P) (hs : s.size ≤ 1200) (hn : P.length ≤ 300) (hf : Fit2 P) : Calls Tryz.prog 43 #[.agg #[.int .i64 k, .int .i64 f, .int .i64 t, .string s, .slice B P.length cP]] w fun e w' => e = .returned (.bool (rgreatB s P)) ∧ Below w.heap.size w w' := by
  have HI := Lib.hid hP
  have HF := Lib.hid hf
  have HSS := Lib.hid hs
  clear hP hf
  generalize hlen : P.length = len at *
  have HLEN := Lib.hid hlen
  have HX : Hid (RBox (w.alloc (.cells #[.int .i64 k, .int .i64 f, .int .i64 t, .string s, .slice B len cP] 58)) w.heap.size k f t s B len cP) := heap_alloc_new _ _
  have HBW := Lib.hid (below_al w (.cells #[.int .i64 k, .int .i64 f, .int .i64 t, .string s, .slice B len cP] 58))
  clear hlen
  go_enter Tryz.func43, Tryz.ntmps43
  go_wp2
  generalize w.alloc (.cells #[.int .i64 k, .int .i64 f, .int .i64 t, .string s, .slice B len cP] 58) = U at *
  have HPU := Lib.hid (HI.out.below HBW.out)
  obtain ⟨r0, r1, r2, r3, r4⟩ := obj_cells5 HX.out
  go_loop [3] (fun i => ∃ q : Nat, q ≤ len ∧ i = .int .i64 (q : Int) ∧ (∀ j, j < q → (duoAt P j).1.size ≤ 1200 ∧ (duoAt P j).2.size ≤ 1200)) (fun i => len - (intOf i).toNat)
  case atStart => exact ⟨0, Nat.zero_le _, rfl, fun j hj => by omega⟩
  case round =>
    obtain ⟨q, hq, rfl, hno⟩ := hrel
    have HNO := Lib.hid hno
    clear hno
    by_cases hlt : q < len
    · obtain ⟨a, x, y, rfl, hx, hc, hd⟩ := HPU.out.at_ (i := q) (by have := HLEN.out; omega)
      have hz := HF.out.at_ (k := q) (by have := HLEN.out; omega)
      rw [hx] at hz
      have hz1 : x.size ≤ maxLen := hz.1
      have hz2 : y.size ≤ maxLen := hz.2
      unfold maxLen at hz1 hz2
      have HXX := Lib.hid hx
      clear hx hz
      by_cases h1 : 1200 < x.size
      · have HF := Lib.hid (rgreat_hit (s := s) (P := P) (k := q) (by have := HLEN.out; omega) (by rw [HXX.out]; exact Or.inl h1))
        go_wp2
        go_ret
        exact ⟨by rw [HF.out] <;> rfl, HBW.out⟩
      · by_cases h2 : 1200 < y.size
        · have HF := Lib.hid (rgreat_hit (s := s) (P := P) (k := q) (by have := HLEN.out; omega) (by rw [HXX.out]; exact Or.inr h2))
          go_wp2
          go_ret
          exact ⟨by rw [HF.out] <;> rfl, HBW.out⟩
        · go_wp2
          go_round
          case rel =>
            refine ⟨q + 1, by omega, by go_num, fun j hj => ?_⟩
            rcases Nat.lt_or_ge j q with h | h
            · exact HNO.out j h
            · obtain rfl : j = q := by omega
              rw [HXX.out]; exact ⟨Nat.le_of_not_lt h1, Nat.le_of_not_lt h2⟩
          case measure => simp [intOf]; omega
    · have HF := Lib.hid (rgreat_miss (s := s) (P := P) HSS.out (by rw [HLEN.out]; exact hn) (fun j hj => HNO.out j (by have := HLEN.out; omega)))
      go_wp2
      go_ret
      exact ⟨by rw [HF.out] <;> rfl, HBW.out⟩
theorem rgreat_any (k f t : Int) (s : ByteArray) (B : Option Addr) (cP : Nat) (P : List PairT) (w : World) (hP : Prs w B P) (hs : s.size ≤ maxLen) (hm : P.length ≤ maxLen) (hf : Fit2 P) : Calls Tryz.prog 43 #[.agg #[.int .i64 k, .int .i64 f, .int .i64 t, .string s, .slice B P.length cP]] w fun e w' => e = .returned (.bool (rgreatB s P)) ∧ Below w.heap.size w w' := by
  by_cases h1 : 1200 < s.size
  · rw [rgreat_text h1]; exact rgreat_long k f t s B _ cP w hs h1
  · by_cases h2 : 300 < P.length
    · rw [rgreat_far h2]; exact rgreat_many k f t s B _ cP w (by omega) hm h2
    · exact rgreat_short k f t s B cP P w hP (by omega) (by omega) hf

end Go.Proofs.YthheflgfbdcnlaaGreatDoor
