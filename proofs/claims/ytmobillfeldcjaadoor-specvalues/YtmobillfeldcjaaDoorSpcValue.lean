/-
  What Value and the document's Value answer: for every spec and text.
-/
import Derived.Test.YtmobillfeldcjaaDoorSpcCheck
import Derived.Test.YtmobillfeldcjaaDoorTlvRefGet
namespace Go.Proofs.YtmobillfeldcjaaDoor
open Go.RowKit

theorem spec_at {w w1 : World} {o : Obj} (hb : Below (w.alloc o).heap.size (w.alloc o) w1) : w1.heap[w.heap.size]? = some o := obj_below (heap_alloc_new _ _) hb

set_option maxHeartbeats 800000 in
theorem val_arg (n c f lo hi : Int) (s : ByteArray) (w : World) (h : spk n c f lo hi ≠ 0) :
    Calls Tryd.prog 11 #[.agg #[.int .i64 n, .int .i64 c, .int .i64 f, .int .i64 lo, .int .i64 hi], .string s] w fun e w' => e = .returned (.int .i64 1) ∧ Below w.heap.size w w' := by
  have HK := Lib.hid (fun W => spcheck_any n c f lo hi W)
  generalize spk n c f lo hi = x at *
  have t1 : (x != 0) = true := by simpa using h
  clear h
  go_enter Tryd.func11, Tryd.ntmps11
  go_wp2_with fail
  refine (HK.out _).mono ?_
  rintro e w1 ⟨rfl, hb1⟩
  have HB1 := Lib.hid (hbt (below_al _ _) hb1)
  clear hb1
  go_wp2
  go_ret
  exact ⟨rfl, HB1.out⟩
set_option maxHeartbeats 800000 in
theorem val_range (n c f lo hi : Int) (s : ByteArray) (w : World) (h : spk n c f lo hi = 0) (h1 : (s.size : Int) < lo ∨ hi < (s.size : Int)) :
    Calls Tryd.prog 11 #[.agg #[.int .i64 n, .int .i64 c, .int .i64 f, .int .i64 lo, .int .i64 hi], .string s] w fun e w' => e = .returned (.int .i64 5) ∧ Below w.heap.size w w' := by
  have HK := Lib.hid (fun W => spcheck_any n c f lo hi W)
  rw [h] at HK
  clear h
  by_cases h2 : (s.size : Int) < lo
  · have t1 : decide ((s.size : Int) < lo) = true := by simpa using h2
    clear h1 h2
    go_enter Tryd.func11, Tryd.ntmps11
    go_wp2_with fail
    refine (HK.out _).mono ?_
    rintro e w1 ⟨rfl, hb1⟩
    have HB1 := Lib.hid (hbt (below_al _ _) hb1)
    obtain ⟨c0, c1, c2, c3, c4⟩ := obj_cells5 (spec_at hb1)
    clear hb1
    go_wp2
    go_ret
    exact ⟨rfl, HB1.out⟩
  · have t1 : decide ((s.size : Int) < lo) = false := by simpa using h2
    have t2 : decide (hi < (s.size : Int)) = true := by simp; omega
    clear h1 h2
    go_enter Tryd.func11, Tryd.ntmps11
    go_wp2_with fail
    refine (HK.out _).mono ?_
    rintro e w1 ⟨rfl, hb1⟩
    have HB1 := Lib.hid (hbt (below_al _ _) hb1)
    obtain ⟨c0, c1, c2, c3, c4⟩ := obj_cells5 (spec_at hb1)
    clear hb1
    go_wp2
    go_ret
    exact ⟨rfl, HB1.out⟩
set_option maxHeartbeats 800000 in
theorem val_class (n c f lo hi : Int) (s : ByteArray) (w : World) (hw : Kinds w) (hs : s.size ≤ maxLen) (h : spk n c f lo hi = 0) (h1 : ¬ ((s.size : Int) < lo ∨ hi < (s.size : Int))) (h2 : 0 ≤ fst c s.data.toList) :
    Calls Tryd.prog 11 #[.agg #[.int .i64 n, .int .i64 c, .int .i64 f, .int .i64 lo, .int .i64 hi], .string s] w fun e w' => e = .returned (.int .i64 6) ∧ Below w.heap.size w w' := by
  have HK := Lib.hid (fun W => spcheck_any n c f lo hi W)
  rw [h] at HK
  have HF := Lib.hid (fun W hW => first_any c s W hW hs)
  generalize fst c s.data.toList = x at *
  have HW := Lib.hid hw
  unfold maxLen at hs
  have t1 : decide ((s.size : Int) < lo) = false := by simp; omega
  have t2 : decide (hi < (s.size : Int)) = false := by simp; omega
  have t3 : decide (0 ≤ x) = true := by simpa using h2
  clear h h1 h2 hw
  go_enter Tryd.func11, Tryd.ntmps11
  go_wp2_with fail
  refine (HK.out _).mono ?_
  rintro e w1 ⟨rfl, hb1⟩
  have HB1 := Lib.hid (hbt (below_al _ _) hb1)
  obtain ⟨c0, c1, c2, c3, c4⟩ := obj_cells5 (spec_at hb1)
  clear hb1
  go_wp2_with fail
  refine (HF.out _ (HW.out.below HB1.out)).mono ?_
  rintro e w2 ⟨rfl, hb2⟩
  have HB2 := Lib.hid (hbt HB1.out hb2)
  clear hb2 c0 c1 c2 c3 c4
  go_wp2
  go_ret
  exact ⟨rfl, HB2.out⟩
set_option maxHeartbeats 800000 in
theorem val_tlv (n f lo hi : Int) (s : ByteArray) (w : World) (hw : Kinds w) (hs : s.size ≤ maxLen) (h : spk n 6 f lo hi = 0) (h1 : ¬ ((s.size : Int) < lo ∨ hi < (s.size : Int))) (h2 : ¬ 0 ≤ fst 6 s.data.toList) (z : Int) (hz : ((tlvN s).1 ≠ 0 ∧ z = 13) ∨ ((tlvN s).1 = 0 ∧ z = 0)) :
    Calls Tryd.prog 11 #[.agg #[.int .i64 n, .int .i64 6, .int .i64 f, .int .i64 lo, .int .i64 hi], .string s] w fun e w' => e = .returned (.int .i64 z) ∧ Below w.heap.size w w' := by
  have hhi := spk_in h
  have HK := Lib.hid (fun W => spcheck_any n 6 f lo hi W)
  rw [h] at HK
  have HF := Lib.hid (fun W hW => first_any 6 s W hW hs)
  have HL := Lib.hid (fun W => speclist_any s W (by omega))
  generalize fst 6 s.data.toList = x at *
  have HW := Lib.hid hw
  unfold maxLen at hs
  have t1 : decide ((s.size : Int) < lo) = false := by simp; omega
  have t2 : decide (hi < (s.size : Int)) = false := by simp; omega
  have t3 : decide (0 ≤ x) = false := by simpa using h2
  rcases hz with ⟨hn, rfl⟩ | ⟨hn, rfl⟩
  · rw [decide_eq_false hn] at HL
    clear h h1 h2 hw hn hhi
    go_enter Tryd.func11, Tryd.ntmps11
    go_wp2_with fail
    refine (HK.out _).mono ?_
    rintro e w1 ⟨rfl, hb1⟩
    have HB1 := Lib.hid (hbt (below_al _ _) hb1)
    have HO1 := Lib.hid (spec_at hb1)
    obtain ⟨c0, c1, c2, c3, c4⟩ := obj_cells5 HO1.out
    clear hb1
    go_wp2_with fail
    refine (HF.out _ (HW.out.below HB1.out)).mono ?_
    rintro e w2 ⟨rfl, hb2⟩
    have HB2 := Lib.hid (hbt HB1.out hb2)
    clear c0 c1 c2 c3 c4
    obtain ⟨c0, c1, c2, c3, c4⟩ := obj_cells5 (obj_below HO1.out hb2)
    clear hb2
    go_wp2_with fail
    refine (HL.out _).mono ?_
    rintro e w3 ⟨rfl, hb3⟩
    have HB3 := Lib.hid (hbt HB2.out hb3)
    clear hb3 c0 c1 c2 c3 c4
    go_wp2
    go_ret
    exact ⟨rfl, HB3.out⟩
  · rw [decide_eq_true hn] at HL
    clear h h1 h2 hw hn hhi
    go_enter Tryd.func11, Tryd.ntmps11
    go_wp2_with fail
    refine (HK.out _).mono ?_
    rintro e w1 ⟨rfl, hb1⟩
    have HB1 := Lib.hid (hbt (below_al _ _) hb1)
    have HO1 := Lib.hid (spec_at hb1)
    obtain ⟨c0, c1, c2, c3, c4⟩ := obj_cells5 HO1.out
    clear hb1
    go_wp2_with fail
    refine (HF.out _ (HW.out.below HB1.out)).mono ?_
    rintro e w2 ⟨rfl, hb2⟩
    have HB2 := Lib.hid (hbt HB1.out hb2)
    clear c0 c1 c2 c3 c4
    obtain ⟨c0, c1, c2, c3, c4⟩ := obj_cells5 (obj_below HO1.out hb2)
    clear hb2
    go_wp2_with fail
    refine (HL.out _).mono ?_
    rintro e w3 ⟨rfl, hb3⟩
    have HB3 := Lib.hid (hbt HB2.out hb3)
    clear hb3 c0 c1 c2 c3 c4
    go_wp2
    go_ret
    exact ⟨rfl, HB3.out⟩
set_option maxHeartbeats 800000 in
theorem val_ok (n c f lo hi : Int) (s : ByteArray) (w : World) (hw : Kinds w) (hs : s.size ≤ maxLen) (h : spk n c f lo hi = 0) (h1 : ¬ ((s.size : Int) < lo ∨ hi < (s.size : Int))) (h2 : ¬ 0 ≤ fst c s.data.toList) (h3 : c ≠ 6) :
    Calls Tryd.prog 11 #[.agg #[.int .i64 n, .int .i64 c, .int .i64 f, .int .i64 lo, .int .i64 hi], .string s] w fun e w' => e = .returned (.int .i64 0) ∧ Below w.heap.size w w' := by
  have HK := Lib.hid (fun W => spcheck_any n c f lo hi W)
  rw [h] at HK
  have HF := Lib.hid (fun W hW => first_any c s W hW hs)
  generalize fst c s.data.toList = x at *
  have HW := Lib.hid hw
  unfold maxLen at hs
  have t1 : decide ((s.size : Int) < lo) = false := by simp; omega
  have t2 : decide (hi < (s.size : Int)) = false := by simp; omega
  have t3 : decide (0 ≤ x) = false := by simpa using h2
  have t4 : (c == 6) = false := by simpa using h3
  clear h h1 h2 h3 hw
  go_enter Tryd.func11, Tryd.ntmps11
  go_wp2_with fail
  refine (HK.out _).mono ?_
  rintro e w1 ⟨rfl, hb1⟩
  have HB1 := Lib.hid (hbt (below_al _ _) hb1)
  have HO1 := Lib.hid (spec_at hb1)
  obtain ⟨c0, c1, c2, c3, c4⟩ := obj_cells5 HO1.out
  clear hb1
  go_wp2_with fail
  refine (HF.out _ (HW.out.below HB1.out)).mono ?_
  rintro e w2 ⟨rfl, hb2⟩
  have HB2 := Lib.hid (hbt HB1.out hb2)
  clear c0 c1 c2 c3 c4
  obtain ⟨c0, c1, c2, c3, c4⟩ := obj_cells5 (obj_below HO1.out hb2)
  clear hb2
  go_wp2
  go_ret
  exact ⟨rfl, HB2.out⟩
theorem spvalue_any (n c f lo hi : Int) (s : ByteArray) (w : World) (hw : Kinds w) (hs : s.size ≤ maxLen) :
    Calls Tryd.prog 11 #[.agg #[.int .i64 n, .int .i64 c, .int .i64 f, .int .i64 lo, .int .i64 hi], .string s] w fun e w' => e = .returned (.int .i64 (spv n c f lo hi s)) ∧ Below w.heap.size w w' := by
  by_cases h : spk n c f lo hi = 0
  · by_cases h1 : (s.size : Int) < lo ∨ hi < (s.size : Int)
    · rw [spv_range h h1]; exact val_range n c f lo hi s w h h1
    by_cases h2 : 0 ≤ fst c s.data.toList
    · rw [spv_class h h1 h2]; exact val_class n c f lo hi s w hw hs h h1 h2
    by_cases h3 : c = 6
    · subst h3
      by_cases h4 : (tlvN s).1 = 0
      · rw [spv_list h h1 h2 h4]; exact val_tlv n f lo hi s w hw hs h h1 h2 _ (Or.inr ⟨h4, rfl⟩)
      · rw [spv_tag h h1 h2 h4]; exact val_tlv n f lo hi s w hw hs h h1 h2 _ (Or.inl ⟨h4, rfl⟩)
    · rw [spv_ok h h1 h2 h3]; exact val_ok n c f lo hi s w hw hs h h1 h2 h3
  · rw [spv_arg h]; exact val_arg n c f lo hi s w h

set_option maxHeartbeats 800000 in
theorem rval_arg (n c f lo hi : Int) (s : ByteArray) (w : World) (h : spk n c f lo hi ≠ 0) :
    Calls Tryd.prog 12 #[.agg #[.int .i64 n, .int .i64 c, .int .i64 f, .int .i64 lo, .int .i64 hi], .string s] w fun e w' => e = .returned (.int .i64 1) ∧ Below w.heap.size w w' := by
  have HK := Lib.hid (fun W => sprefCheck_any n c f lo hi W)
  generalize spk n c f lo hi = x at *
  have t1 : (x != 0) = true := by simpa using h
  clear h
  go_enter Tryd.func12, Tryd.ntmps12
  go_wp2_with fail
  refine (HK.out _).mono ?_
  rintro e w1 ⟨rfl, hb1⟩
  have HB1 := Lib.hid (hbt (below_al _ _) hb1)
  clear hb1
  go_wp2
  go_ret
  exact ⟨rfl, HB1.out⟩
set_option maxHeartbeats 800000 in
theorem rval_range (n c f lo hi : Int) (s : ByteArray) (w : World) (h : spk n c f lo hi = 0) (h1 : (s.size : Int) < lo ∨ hi < (s.size : Int)) :
    Calls Tryd.prog 12 #[.agg #[.int .i64 n, .int .i64 c, .int .i64 f, .int .i64 lo, .int .i64 hi], .string s] w fun e w' => e = .returned (.int .i64 5) ∧ Below w.heap.size w w' := by
  have HK := Lib.hid (fun W => sprefCheck_any n c f lo hi W)
  rw [h] at HK
  clear h
  by_cases h2 : (s.size : Int) < lo
  · have t1 : decide ((s.size : Int) < lo) = true := by simpa using h2
    clear h1 h2
    go_enter Tryd.func12, Tryd.ntmps12
    go_wp2_with fail
    refine (HK.out _).mono ?_
    rintro e w1 ⟨rfl, hb1⟩
    have HB1 := Lib.hid (hbt (below_al _ _) hb1)
    obtain ⟨c0, c1, c2, c3, c4⟩ := obj_cells5 (spec_at hb1)
    clear hb1
    go_wp2
    go_ret
    exact ⟨rfl, HB1.out⟩
  · have t1 : decide ((s.size : Int) < lo) = false := by simpa using h2
    have t2 : decide (hi < (s.size : Int)) = true := by simp; omega
    clear h1 h2
    go_enter Tryd.func12, Tryd.ntmps12
    go_wp2_with fail
    refine (HK.out _).mono ?_
    rintro e w1 ⟨rfl, hb1⟩
    have HB1 := Lib.hid (hbt (below_al _ _) hb1)
    obtain ⟨c0, c1, c2, c3, c4⟩ := obj_cells5 (spec_at hb1)
    clear hb1
    go_wp2
    go_ret
    exact ⟨rfl, HB1.out⟩
set_option maxHeartbeats 800000 in
theorem rval_class (n c f lo hi : Int) (s : ByteArray) (w : World) (hs : s.size ≤ maxLen) (h : spk n c f lo hi = 0) (h1 : ¬ ((s.size : Int) < lo ∨ hi < (s.size : Int))) (h2 : 0 ≤ fst c s.data.toList) :
    Calls Tryd.prog 12 #[.agg #[.int .i64 n, .int .i64 c, .int .i64 f, .int .i64 lo, .int .i64 hi], .string s] w fun e w' => e = .returned (.int .i64 6) ∧ Below w.heap.size w w' := by
  have HK := Lib.hid (fun W => sprefCheck_any n c f lo hi W)
  rw [h] at HK
  have HF := Lib.hid (fun W => refFirst_any c s W hs)
  generalize fst c s.data.toList = x at *
  unfold maxLen at hs
  have t1 : decide ((s.size : Int) < lo) = false := by simp; omega
  have t2 : decide (hi < (s.size : Int)) = false := by simp; omega
  have t3 : decide (0 ≤ x) = true := by simpa using h2
  clear h h1 h2
  go_enter Tryd.func12, Tryd.ntmps12
  go_wp2_with fail
  refine (HK.out _).mono ?_
  rintro e w1 ⟨rfl, hb1⟩
  have HB1 := Lib.hid (hbt (below_al _ _) hb1)
  obtain ⟨c0, c1, c2, c3, c4⟩ := obj_cells5 (spec_at hb1)
  clear hb1
  go_wp2_with fail
  refine (HF.out _).mono ?_
  rintro e w2 ⟨rfl, rfl⟩
  go_wp2
  go_ret
  exact ⟨rfl, HB1.out⟩
set_option maxHeartbeats 800000 in
theorem rval_tlv (n f lo hi : Int) (s : ByteArray) (w : World) (hs : s.size ≤ maxLen) (h : spk n 6 f lo hi = 0) (h1 : ¬ ((s.size : Int) < lo ∨ hi < (s.size : Int))) (h2 : ¬ 0 ≤ fst 6 s.data.toList) (z : Int) (hz : ((tlvN s).1 ≠ 0 ∧ z = 13) ∨ ((tlvN s).1 = 0 ∧ z = 0)) :
    Calls Tryd.prog 12 #[.agg #[.int .i64 n, .int .i64 6, .int .i64 f, .int .i64 lo, .int .i64 hi], .string s] w fun e w' => e = .returned (.int .i64 z) ∧ Below w.heap.size w w' := by
  have hhi := spk_in h
  have HK := Lib.hid (fun W => sprefCheck_any n 6 f lo hi W)
  rw [h] at HK
  have HF := Lib.hid (fun W => refFirst_any 6 s W hs)
  have HL := Lib.hid (fun W => tlvrefGet_any s W (by omega))
  generalize fst 6 s.data.toList = x at *
  generalize (tlvN s).2.2.length = len at *
  generalize (tlvN s).2.2 = l at *
  generalize (tlvN s).2.1 = p at *
  generalize (tlvN s).1 = y at *
  unfold maxLen at hs
  have t1 : decide ((s.size : Int) < lo) = false := by simp; omega
  have t2 : decide (hi < (s.size : Int)) = false := by simp; omega
  have t3 : decide (0 ≤ x) = false := by simpa using h2
  rcases hz with ⟨hn, rfl⟩ | ⟨rfl, rfl⟩
  · have t4 : ((y : Int) != 0) = true := by simpa using hn
    have t5 : y ≠ 0 := hn
    clear h h1 h2 hn hhi
    go_enter Tryd.func12, Tryd.ntmps12
    go_wp2_with fail
    refine (HK.out _).mono ?_
    rintro e w1 ⟨rfl, hb1⟩
    have HB1 := Lib.hid (hbt (below_al _ _) hb1)
    obtain ⟨c0, c1, c2, c3, c4⟩ := obj_cells5 (spec_at hb1)
    clear hb1
    go_wp2_with fail
    refine (HF.out _).mono ?_
    rintro e w2 ⟨rfl, rfl⟩
    go_wp2_with fail
    refine (HL.out _).mono ?_
    rintro e w3 ⟨A, cap, rfl, hA, hb3⟩
    have HB3 := Lib.hid (hbt HB1.out hb3)
    clear hb3 hA c0 c1 c2 c3 c4
    go_wp2
    go_ret
    exact ⟨rfl, HB3.out⟩
  · clear h h1 h2 hhi
    go_enter Tryd.func12, Tryd.ntmps12
    go_wp2_with fail
    refine (HK.out _).mono ?_
    rintro e w1 ⟨rfl, hb1⟩
    have HB1 := Lib.hid (hbt (below_al _ _) hb1)
    obtain ⟨c0, c1, c2, c3, c4⟩ := obj_cells5 (spec_at hb1)
    clear hb1
    go_wp2_with fail
    refine (HF.out _).mono ?_
    rintro e w2 ⟨rfl, rfl⟩
    go_wp2_with fail
    refine (HL.out _).mono ?_
    rintro e w3 ⟨A, cap, rfl, hA, hb3⟩
    have HB3 := Lib.hid (hbt HB1.out hb3)
    clear hb3 hA c0 c1 c2 c3 c4
    go_wp2
    go_ret
    exact ⟨rfl, HB3.out⟩
set_option maxHeartbeats 800000 in
theorem rval_ok (n c f lo hi : Int) (s : ByteArray) (w : World) (hs : s.size ≤ maxLen) (h : spk n c f lo hi = 0) (h1 : ¬ ((s.size : Int) < lo ∨ hi < (s.size : Int))) (h2 : ¬ 0 ≤ fst c s.data.toList) (h3 : c ≠ 6) :
    Calls Tryd.prog 12 #[.agg #[.int .i64 n, .int .i64 c, .int .i64 f, .int .i64 lo, .int .i64 hi], .string s] w fun e w' => e = .returned (.int .i64 0) ∧ Below w.heap.size w w' := by
  have HK := Lib.hid (fun W => sprefCheck_any n c f lo hi W)
  rw [h] at HK
  have HF := Lib.hid (fun W => refFirst_any c s W hs)
  generalize fst c s.data.toList = x at *
  unfold maxLen at hs
  have t1 : decide ((s.size : Int) < lo) = false := by simp; omega
  have t2 : decide (hi < (s.size : Int)) = false := by simp; omega
  have t3 : decide (0 ≤ x) = false := by simpa using h2
  have t4 : (c == 6) = false := by simpa using h3
  clear h h1 h2 h3
  go_enter Tryd.func12, Tryd.ntmps12
  go_wp2_with fail
  refine (HK.out _).mono ?_
  rintro e w1 ⟨rfl, hb1⟩
  have HB1 := Lib.hid (hbt (below_al _ _) hb1)
  obtain ⟨c0, c1, c2, c3, c4⟩ := obj_cells5 (spec_at hb1)
  clear hb1
  go_wp2_with fail
  refine (HF.out _).mono ?_
  rintro e w2 ⟨rfl, rfl⟩
  go_wp2
  go_ret
  exact ⟨rfl, HB1.out⟩
theorem sprefValue_any (n c f lo hi : Int) (s : ByteArray) (w : World) (hs : s.size ≤ maxLen) :
    Calls Tryd.prog 12 #[.agg #[.int .i64 n, .int .i64 c, .int .i64 f, .int .i64 lo, .int .i64 hi], .string s] w fun e w' => e = .returned (.int .i64 (spv n c f lo hi s)) ∧ Below w.heap.size w w' := by
  by_cases h : spk n c f lo hi = 0
  · by_cases h1 : (s.size : Int) < lo ∨ hi < (s.size : Int)
    · rw [spv_range h h1]; exact rval_range n c f lo hi s w h h1
    by_cases h2 : 0 ≤ fst c s.data.toList
    · rw [spv_class h h1 h2]; exact rval_class n c f lo hi s w hs h h1 h2
    by_cases h3 : c = 6
    · subst h3
      by_cases h4 : (tlvN s).1 = 0
      · rw [spv_list h h1 h2 h4]; exact rval_tlv n f lo hi s w hs h h1 h2 _ (Or.inr ⟨h4, rfl⟩)
      · rw [spv_tag h h1 h2 h4]; exact rval_tlv n f lo hi s w hs h h1 h2 _ (Or.inl ⟨h4, rfl⟩)
    · rw [spv_ok h h1 h2 h3]; exact rval_ok n c f lo hi s w hs h h1 h2 h3
  · rw [spv_arg h]; exact rval_arg n c f lo hi s w h

end Go.Proofs.YtmobillfeldcjaaDoor
