/-
  The laws SchemaChecks and SchemaSame: for every schema, in every world.
-/
import Derived.Test.YtiifkcemieblkaaSchAwake
namespace Go.Proofs.Ytiifkcemieblkaa
open Go.RowKit

set_option maxRecDepth 100000 in
set_option maxHeartbeats 3200000 in
theorem schecks_long (st v : Int) (A : Option Addr) (len cap : Nat) (w : World) (h : 300 < len) :
    Calls Try.prog 3 #[.agg #[.int .i64 st, .int .i64 v, .slice A len cap]] w fun e w' => e = .returned (.bool true) ∧ Below w.heap.size w w' := by
  have t : decide ((300 : Int) < (len : Int)) = true := by simp; omega
  clear h
  go_enter Try.func3, Try.ntmps3
  go_wp2_with fail
  refine (scawake_any _).mono ?_
  rintro e w1 ⟨rfl, hb1⟩
  obtain ⟨b0, b1, b2⟩ := obj_cells3 ((box_new w st v A len cap).below hb1)
  have HB1 := Lib.hid (hbt (below_al _ _) hb1)
  clear hb1
  go_wp2_with fail
  refine (scawake_any _).mono ?_
  rintro e w2 ⟨rfl, hb2⟩
  have HB2 := Lib.hid (hbt HB1.out hb2)
  clear hb2 b0 b1 b2
  go_wp2
  go_ret
  exact ⟨rfl, HB2.out⟩
set_option maxRecDepth 100000 in
set_option maxHeartbeats 3200000 in
theorem schecks_short (st v : Int) (A : Option Addr) (cap : Nat) (l : List Sp) (w : World) (hI : Spl w A l) (h : ¬ 300 < l.length) :
    Calls Try.prog 3 #[.agg #[.int .i64 st, .int .i64 v, .slice A l.length cap]] w fun e w' => e = .returned (.bool true) ∧ Below w.heap.size w w' := by
  have t : decide ((300 : Int) < (l.length : Int)) = false := by simp; omega
  have hn : l.length ≤ 1000 := by omega
  have HI := Lib.hid hI
  have HC := Lib.hid (fun A' c' W hW => schk_any st v A' c' l W hW hn)
  have HK := Lib.hid (fun W hW => srefk_any st v A cap l W hW hn)
  have HY := Lib.hid (fun W hW => scopy_any st v A cap l W hW hn)
  clear h hI hn
  generalize (schN st v l).1 = z at *
  generalize (schN st v l).2 = z' at *
  generalize l.length = len at *
  go_enter Try.func3, Try.ntmps3
  go_wp2_with fail
  refine (scawake_any _).mono ?_
  rintro e w1 ⟨rfl, hb1⟩
  have HX1 := Lib.hid ((box_new w st v A len cap).below hb1)
  have HB1 := Lib.hid (hbt (below_al _ _) hb1)
  obtain ⟨b0, b1, b2⟩ := obj_cells3 HX1.out
  clear hb1
  go_wp2_with fail
  refine (HY.out _ (HI.out.below HB1.out)).mono ?_
  rintro e w2 ⟨A2, c2, rfl, ht2, hb2⟩
  have HT2 := Lib.hid ht2
  have HX2 := Lib.hid (HX1.out.below hb2)
  have HB2 := Lib.hid (hbt HB1.out hb2)
  clear hb2 ht2 b0 b1 b2
  go_wp2_with fail
  refine (HC.out _ _ _ HT2.out).mono ?_
  rintro e w3 ⟨rfl, hb3⟩
  have HX3 := Lib.hid (HX2.out.below hb3)
  have HB3 := Lib.hid (hbt HB2.out hb3)
  obtain ⟨b0, b1, b2⟩ := obj_cells3 HX3.out
  clear hb3
  go_wp2_with fail
  refine (HK.out _ (HI.out.below HB3.out)).mono ?_
  rintro e w4 ⟨rfl, hb4⟩
  have HB4 := Lib.hid (hbt HB3.out hb4)
  clear hb4 b0 b1 b2
  go_wp2
  go_ret
  exact ⟨rfl, HB4.out⟩
theorem schecks_walk (st v : Int) (A : Option Addr) (cap : Nat) (l : List Sp) (w : World) (hI : Spl w A l) (_hm : l.length ≤ maxLen) :
    Calls Try.prog 3 #[.agg #[.int .i64 st, .int .i64 v, .slice A l.length cap]] w fun e w' => e = .returned (.bool true) ∧ Below w.heap.size w w' := by
  by_cases h : 300 < l.length
  · exact schecks_long st v A _ cap w h
  · exact schecks_short st v A cap l w hI h

set_option maxRecDepth 100000 in
set_option maxHeartbeats 3200000 in
theorem slsame_long (st v : Int) (A : Option Addr) (len cap : Nat) (st' v' : Int) (B : Option Addr) (len' cap' : Nat) (w : World) (h : 300 < len ∨ 300 < len') :
    Calls Try.prog 7 #[.agg #[.int .i64 st, .int .i64 v, .slice A len cap], .agg #[.int .i64 st', .int .i64 v', .slice B len' cap']] w fun e w' => e = .returned (.bool true) ∧ Below w.heap.size w w' := by
  by_cases h1 : 300 < len
  · have t : decide ((300 : Int) < (len : Int)) = true := by simp; omega
    clear h h1
    go_enter Try.func7, Try.ntmps7
    go_wp2_with fail
    refine (scawake_any _).mono ?_
    rintro e w1 ⟨rfl, hb1⟩
    obtain ⟨b0, b1, b2⟩ := obj_cells3 ((twins_new w st v A len cap st' v' B len' cap').below hb1).2.1
    obtain ⟨b3, b4, b5⟩ := obj_cells3 ((twins_new w st v A len cap st' v' B len' cap').below hb1).2.2
    have HB1 := Lib.hid ((twins_new w st v A len cap st' v' B len' cap').below hb1).1
    clear hb1
    go_wp2_with fail
    refine (scawake_any _).mono ?_
    rintro e w2 ⟨rfl, hb2⟩
    have HB2 := Lib.hid (hbt HB1.out hb2)
    clear hb2 b0 b1 b2 b3 b4 b5
    go_wp2
    go_ret
    exact ⟨rfl, HB2.out⟩
  · have t : decide ((300 : Int) < (len : Int)) = false := by simp; omega
    have t' : decide ((300 : Int) < (len' : Int)) = true := by simp; omega
    clear h h1
    go_enter Try.func7, Try.ntmps7
    go_wp2_with fail
    refine (scawake_any _).mono ?_
    rintro e w1 ⟨rfl, hb1⟩
    obtain ⟨b0, b1, b2⟩ := obj_cells3 ((twins_new w st v A len cap st' v' B len' cap').below hb1).2.1
    obtain ⟨b3, b4, b5⟩ := obj_cells3 ((twins_new w st v A len cap st' v' B len' cap').below hb1).2.2
    have HB1 := Lib.hid ((twins_new w st v A len cap st' v' B len' cap').below hb1).1
    clear hb1
    go_wp2_with fail
    refine (scawake_any _).mono ?_
    rintro e w2 ⟨rfl, hb2⟩
    have HB2 := Lib.hid (hbt HB1.out hb2)
    clear hb2 b0 b1 b2 b3 b4 b5
    go_wp2
    go_ret
    exact ⟨rfl, HB2.out⟩
set_option maxRecDepth 100000 in
set_option maxHeartbeats 3200000 in
theorem slsame_short (st v : Int) (A : Option Addr) (ca : Nat) (l : List Sp) (st' v' : Int) (B : Option Addr) (cb : Nat) (m : List Sp) (w : World) (hA : Spl w A l) (hB : Spl w B m) (h : ¬ (300 < l.length ∨ 300 < m.length)) :
    Calls Try.prog 7 #[.agg #[.int .i64 st, .int .i64 v, .slice A l.length ca], .agg #[.int .i64 st', .int .i64 v', .slice B m.length cb]] w fun e w' => e = .returned (.bool true) ∧ Below w.heap.size w w' := by
  have t : decide ((300 : Int) < (l.length : Int)) = false := by simp; omega
  have t' : decide ((300 : Int) < (m.length : Int)) = false := by simp; omega
  have hl : l.length ≤ 1000 := by omega
  have hm : m.length ≤ 1000 := by omega
  have HS := Lib.hid (fun W h1 h2 => ssame_any st v A ca l st' v' B cb m W h1 h2 hl hm)
  have HQ := Lib.hid (fun W h1 h2 => ssame_any st' v' B cb m st v A ca l W h1 h2 hm hl)
  have HR := Lib.hid (fun W h1 h2 => srsame_any st v A ca l st' v' B cb m W h1 h2 hl)
  rw [same_comm] at HQ
  have HT := Lib.hid (twins_new w st v A l.length ca st' v' B m.length cb)
  have HA := Lib.hid (hA.below HT.out.1)
  have HB := Lib.hid (hB.below HT.out.1)
  clear hA hB h hl hm
  generalize sameS st v l st' v' m = r at *
  generalize l.length = len at *
  generalize m.length = len' at *
  go_enter Try.func7, Try.ntmps7
  go_wp2_with fail
  generalize (w.alloc (.cells #[.int .i64 st, .int .i64 v, .slice A len ca] 24)).alloc (.cells #[.int .i64 st', .int .i64 v', .slice B len' cb] 24) = U at *
  refine (scawake_any _).mono ?_
  rintro e w1 ⟨rfl, hb1⟩
  have HT1 := Lib.hid (HT.out.below hb1)
  have HA1 := Lib.hid (HA.out.below hb1)
  have HB1 := Lib.hid (HB.out.below hb1)
  obtain ⟨b0, b1, b2⟩ := obj_cells3 HT1.out.2.1
  obtain ⟨b3, b4, b5⟩ := obj_cells3 HT1.out.2.2
  clear hb1
  go_wp2_with fail
  clear b0 b1 b2 b3 b4 b5
  refine wp_region_noPanic ?_
  refine wp_region_held_drew (S := (fun u => Below w1.heap.size w1 u)) (by kernel_rfl) ((Below.refl _ _).drew) (fun hS => ?_)
  refine give_val (i := 0) (v := ?_) rfl (by kernel_rfl) (by kernel_rfl) (by kernel_rfl) (fun _ _ _ h => h) (by rfl) (fun u hu => ?_) hS ?_
  rotate_left
  · ((have hT := HT1.out.below hu; obtain ⟨b0, b1, b2⟩ := obj_cells3 hT.2.1; obtain ⟨b3, b4, b5⟩ := obj_cells3 hT.2.2; clear hT); go_simp; try (with_reducible rfl))
  try simp only [Act.put, List.setIfInBounds_toArray, List.set_cons_zero, List.set_cons_succ]
  refine give_val (i := 1) (v := ?_) rfl (by kernel_rfl) (by kernel_rfl) (by kernel_rfl) (fun _ _ _ h => h) (by rfl) (fun u hu => ?_) hS ?_
  rotate_left
  · ((have hT := HT1.out.below hu; obtain ⟨b0, b1, b2⟩ := obj_cells3 hT.2.1; obtain ⟨b3, b4, b5⟩ := obj_cells3 hT.2.2; clear hT); go_simp; try (with_reducible rfl))
  try simp only [Act.put, List.setIfInBounds_toArray, List.set_cons_zero, List.set_cons_succ]
  refine give_val (i := 3) (v := ?_) rfl (by kernel_rfl) (by kernel_rfl) (by kernel_rfl) (fun _ _ _ h => h) (by rfl) (fun u hu => ?_) hS ?_
  rotate_left
  · ((have hT := HT1.out.below hu; obtain ⟨b0, b1, b2⟩ := obj_cells3 hT.2.1; obtain ⟨b3, b4, b5⟩ := obj_cells3 hT.2.2; clear hT); go_simp; try (with_reducible rfl))
  try simp only [Act.put, List.setIfInBounds_toArray, List.set_cons_zero, List.set_cons_succ]
  refine give_val (i := 4) (v := ?_) rfl (by kernel_rfl) (by kernel_rfl) (by kernel_rfl) (fun _ _ _ h => h) (by rfl) (fun u hu => ?_) hS ?_
  rotate_left
  · ((have hT := HT1.out.below hu; obtain ⟨b0, b1, b2⟩ := obj_cells3 hT.2.1; obtain ⟨b3, b4, b5⟩ := obj_cells3 hT.2.2; clear hT); go_simp; try (with_reducible rfl))
  try simp only [Act.put, List.setIfInBounds_toArray, List.set_cons_zero, List.set_cons_succ]
  refine only_call (i := 2) 23 #[.agg #[.int .i64 st, .int .i64 v, .slice A len ca], .agg #[.int .i64 st', .int .i64 v', .slice B len' cb]] rfl (by kernel_rfl) (by rfl) ((HS.out _ (HA1.out.below hS) (HB1.out.below hS)).mono fun e w' he => ⟨he.1, hbt hS he.2⟩) ?_ ?_
  · (go_simp; try (with_reducible rfl))
  clear hS
  intro w2 hS
  try simp only [Act.put, List.setIfInBounds_toArray, List.set_cons_zero, List.set_cons_succ]
  refine only_call (i := 5) 20 #[.agg #[.int .i64 st, .int .i64 v, .slice A len ca], .agg #[.int .i64 st', .int .i64 v', .slice B len' cb]] rfl (by kernel_rfl) (by rfl) ((HR.out _ (HA1.out.below hS) (HB1.out.below hS)).mono fun e w' he => ⟨he.1, hbt hS he.2⟩) ?_ ?_
  · (go_simp; try (with_reducible rfl))
  clear hS
  intro w5 hS
  try simp only [Act.put, List.setIfInBounds_toArray, List.set_cons_zero, List.set_cons_succ]
  refine give_val (i := 6) (v := (.bool true)) rfl (by kernel_rfl) (by kernel_rfl) (by kernel_rfl) (fun _ _ _ h => h) (by rfl) (fun u hu => ?_) hS ?_
  · ((have hT := HT1.out.below hu; obtain ⟨b0, b1, b2⟩ := obj_cells3 hT.2.1; obtain ⟨b3, b4, b5⟩ := obj_cells3 hT.2.2; clear hT); go_simp; (try simp))
  try simp only [Act.put, List.setIfInBounds_toArray, List.set_cons_zero, List.set_cons_succ]
  refine give_val (i := 7) (v := ?_) rfl (by kernel_rfl) (by kernel_rfl) (by kernel_rfl) (fun _ _ _ h => h) (by rfl) (fun u hu => ?_) hS ?_
  rotate_left
  · ((have hT := HT1.out.below hu; obtain ⟨b0, b1, b2⟩ := obj_cells3 hT.2.1; obtain ⟨b3, b4, b5⟩ := obj_cells3 hT.2.2; clear hT); go_simp; try (with_reducible rfl))
  try simp only [Act.put, List.setIfInBounds_toArray, List.set_cons_zero, List.set_cons_succ]
  refine give_val (i := 8) (v := ?_) rfl (by kernel_rfl) (by kernel_rfl) (by kernel_rfl) (fun _ _ _ h => h) (by rfl) (fun u hu => ?_) hS ?_
  rotate_left
  · ((have hT := HT1.out.below hu; obtain ⟨b0, b1, b2⟩ := obj_cells3 hT.2.1; obtain ⟨b3, b4, b5⟩ := obj_cells3 hT.2.2; clear hT); go_simp; try (with_reducible rfl))
  try simp only [Act.put, List.setIfInBounds_toArray, List.set_cons_zero, List.set_cons_succ]
  refine give_val (i := 9) (v := ?_) rfl (by kernel_rfl) (by kernel_rfl) (by kernel_rfl) (fun _ _ _ h => h) (by rfl) (fun u hu => ?_) hS ?_
  rotate_left
  · ((have hT := HT1.out.below hu; obtain ⟨b0, b1, b2⟩ := obj_cells3 hT.2.1; obtain ⟨b3, b4, b5⟩ := obj_cells3 hT.2.2; clear hT); go_simp; try (with_reducible rfl))
  try simp only [Act.put, List.setIfInBounds_toArray, List.set_cons_zero, List.set_cons_succ]
  refine give_val (i := 11) (v := ?_) rfl (by kernel_rfl) (by kernel_rfl) (by kernel_rfl) (fun _ _ _ h => h) (by rfl) (fun u hu => ?_) hS ?_
  rotate_left
  · ((have hT := HT1.out.below hu; obtain ⟨b0, b1, b2⟩ := obj_cells3 hT.2.1; obtain ⟨b3, b4, b5⟩ := obj_cells3 hT.2.2; clear hT); go_simp; try (with_reducible rfl))
  try simp only [Act.put, List.setIfInBounds_toArray, List.set_cons_zero, List.set_cons_succ]
  refine give_val (i := 12) (v := ?_) rfl (by kernel_rfl) (by kernel_rfl) (by kernel_rfl) (fun _ _ _ h => h) (by rfl) (fun u hu => ?_) hS ?_
  rotate_left
  · ((have hT := HT1.out.below hu; obtain ⟨b0, b1, b2⟩ := obj_cells3 hT.2.1; obtain ⟨b3, b4, b5⟩ := obj_cells3 hT.2.2; clear hT); go_simp; try (with_reducible rfl))
  try simp only [Act.put, List.setIfInBounds_toArray, List.set_cons_zero, List.set_cons_succ]
  refine only_call (i := 10) 23 #[.agg #[.int .i64 st', .int .i64 v', .slice B len' cb], .agg #[.int .i64 st, .int .i64 v, .slice A len ca]] rfl (by kernel_rfl) (by rfl) ((HQ.out _ (HB1.out.below hS) (HA1.out.below hS)).mono fun e w' he => ⟨he.1, hbt hS he.2⟩) ?_ ?_
  · (go_simp; try (with_reducible rfl))
  clear hS
  intro w10 hS
  try simp only [Act.put, List.setIfInBounds_toArray, List.set_cons_zero, List.set_cons_succ]
  refine only_call (i := 13) 23 #[.agg #[.int .i64 st, .int .i64 v, .slice A len ca], .agg #[.int .i64 st', .int .i64 v', .slice B len' cb]] rfl (by kernel_rfl) (by rfl) ((HS.out _ (HA1.out.below hS) (HB1.out.below hS)).mono fun e w' he => ⟨he.1, hbt hS he.2⟩) ?_ ?_
  · (go_simp; try (with_reducible rfl))
  clear hS
  intro w13 hS
  try simp only [Act.put, List.setIfInBounds_toArray, List.set_cons_zero, List.set_cons_succ]
  refine give_val (i := 14) (v := (.bool true)) rfl (by kernel_rfl) (by kernel_rfl) (by kernel_rfl) (fun _ _ _ h => h) (by rfl) (fun u hu => ?_) hS ?_
  · ((have hT := HT1.out.below hu; obtain ⟨b0, b1, b2⟩ := obj_cells3 hT.2.1; obtain ⟨b3, b4, b5⟩ := obj_cells3 hT.2.2; clear hT); go_simp; (try simp))
  try simp only [Act.put, List.setIfInBounds_toArray, List.set_cons_zero, List.set_cons_succ]
  refine give_val (i := 15) (v := ?_) rfl (by kernel_rfl) (by kernel_rfl) (by kernel_rfl) (fun _ _ _ h => h) (by rfl) (fun u hu => ?_) hS ?_
  rotate_left
  · ((have hT := HT1.out.below hu; obtain ⟨b0, b1, b2⟩ := obj_cells3 hT.2.1; obtain ⟨b3, b4, b5⟩ := obj_cells3 hT.2.2; clear hT); go_simp; try (with_reducible rfl))
  try simp only [Act.put, List.setIfInBounds_toArray, List.set_cons_zero, List.set_cons_succ]
  refine give_val (i := 16) (v := ?_) rfl (by kernel_rfl) (by kernel_rfl) (by kernel_rfl) (fun _ _ _ h => h) (by rfl) (fun u hu => ?_) hS ?_
  rotate_left
  · ((have hT := HT1.out.below hu; obtain ⟨b0, b1, b2⟩ := obj_cells3 hT.2.1; obtain ⟨b3, b4, b5⟩ := obj_cells3 hT.2.2; clear hT); go_simp; try (with_reducible rfl))
  try simp only [Act.put, List.setIfInBounds_toArray, List.set_cons_zero, List.set_cons_succ]
  refine wpAnyH_done (by kernel_rfl) (NoPanic.normal ?_) _
  go_wp2
  go_ret
  exact ⟨rfl, hbt HT1.out.1 hS⟩
theorem slsame_walk (st v : Int) (A : Option Addr) (ca : Nat) (l : List Sp) (st' v' : Int) (B : Option Addr) (cb : Nat) (m : List Sp) (w : World) (hA : Spl w A l) (_h1 : l.length ≤ maxLen) (hB : Spl w B m) (_h2 : m.length ≤ maxLen) :
    Calls Try.prog 7 #[.agg #[.int .i64 st, .int .i64 v, .slice A l.length ca], .agg #[.int .i64 st', .int .i64 v', .slice B m.length cb]] w fun e w' => e = .returned (.bool true) ∧ Below w.heap.size w w' := by
  by_cases h : 300 < l.length ∨ 300 < m.length
  · exact slsame_long st v A _ ca st' v' B _ cb w h
  · exact slsame_short st v A ca l st' v' B cb m w hA hB h

end Go.Proofs.Ytiifkcemieblkaa
