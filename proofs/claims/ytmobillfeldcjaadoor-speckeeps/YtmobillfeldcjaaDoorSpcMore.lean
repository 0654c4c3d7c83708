/-
  SpecBounds and SpecKeeps: for every input, in every world in which the table of kinds stands as the program's text lays it.
-/
import Derived.Test.YtmobillfeldcjaaDoorSpcLaws
namespace Go.Proofs.YtmobillfeldcjaaDoor
open Go.RowKit

set_option maxRecDepth 100000 in
set_option maxHeartbeats 3200000 in
theorem sbounds_long (n c f lo hi : Int) (s : ByteArray) (w : World) (hw : Kinds w) (hm : s.size ≤ maxLen) (hl : 999 < s.size) :
    Calls Tryd.prog 5 #[.agg #[.int .i64 n, .int .i64 c, .int .i64 f, .int .i64 lo, .int .i64 hi], .string s] w fun e w' => e = .returned (.bool true) ∧ Below w.heap.size w w' := by
  unfold maxLen at hm
  have HW := Lib.hid hw
  clear hw
  have t1 : decide ((999 : Int) < (s.size : Int)) = true := by simp; omega
  go_enter Tryd.func5, Tryd.ntmps5
  go_wp2_with fail
  refine (spawake_any _ (HW.out.below (below_al _ _))).mono ?_
  rintro e w1 ⟨rfl, hb1⟩
  have HB1 := Lib.hid (hbt (below_al _ _) hb1)
  clear hb1
  go_wp2_with fail
  refine (spawake_any _ (HW.out.below HB1.out)).mono ?_
  rintro e w2 ⟨rfl, hb2⟩
  have HB2 := Lib.hid (hbt HB1.out hb2)
  clear hb2
  go_wp2
  go_ret
  exact ⟨rfl, HB2.out⟩
set_option maxRecDepth 100000 in
set_option maxHeartbeats 3200000 in
theorem sbounds_no (n c f lo hi : Int) (s : ByteArray) (w : World) (hw : Kinds w) (hl : s.size ≤ 999) (hv : spv n c f lo hi s ≠ 0) :
    Calls Tryd.prog 5 #[.agg #[.int .i64 n, .int .i64 c, .int .i64 f, .int .i64 lo, .int .i64 hi], .string s] w fun e w' => e = .returned (.bool true) ∧ Below w.heap.size w w' := by
  have HK := Lib.hid (fun W hW => spvalue_any n c f lo hi s W hW (by unfold maxLen; omega))
  have HS0 := Lib.hid (spec1_new w n c f lo hi)
  have HW := Lib.hid hw
  clear hw
  generalize spv n c f lo hi s = x at *
  have t1 : decide ((999 : Int) < (s.size : Int)) = false := by simp; omega
  have t2 : (x != 0) = true := by simpa using hv
  clear hv
  go_enter Tryd.func5, Tryd.ntmps5
  go_wp2_with fail
  refine (spawake_any _ (HW.out.below (below_al _ _))).mono ?_
  rintro e w1 ⟨rfl, hb1⟩
  have HS1 := Lib.hid (HS0.out.below hb1)
  obtain ⟨c0, c1, c2, c3, c4⟩ := obj_cells5 HS1.out.2
  clear hb1
  go_wp2_with fail
  refine (HK.out _ (HW.out.below HS1.out.1)).mono ?_
  rintro e w2 ⟨rfl, hb2⟩
  have HB2 := Lib.hid (hbt HS1.out.1 hb2)
  clear hb2 c0 c1 c2 c3 c4
  go_wp2_with fail
  refine (spawake_any _ (HW.out.below HB2.out)).mono ?_
  rintro e w3 ⟨rfl, hb3⟩
  have HB3 := Lib.hid (hbt HB2.out hb3)
  clear hb3
  go_wp2
  go_ret
  exact ⟨rfl, HB3.out⟩
set_option maxRecDepth 100000 in
set_option maxHeartbeats 3200000 in
theorem sbounds_yes (n c f : Int) (lo hi : Nat) (s : ByteArray) (w : World) (hw : Kinds w) (hv : spv n c f lo hi s = 0) (h1 : 1 ≤ lo) (h2 : lo ≤ s.size) (h3 : s.size ≤ hi) (h4 : hi ≤ 999) :
    Calls Tryd.prog 5 #[.agg #[.int .i64 n, .int .i64 c, .int .i64 f, .int .i64 (lo : Int), .int .i64 (hi : Int)], .string s] w fun e w' => e = .returned (.bool true) ∧ Below w.heap.size w w' := by
  have HK := Lib.hid (fun W hW => spvalue_any n c f lo hi s W hW (by unfold maxLen; omega))
  rw [hv] at HK
  have HL := Lib.hid (fun (t : ByteArray) (ht : hi < t.size) (ht' : t.size ≤ 1000) W hW => by
    have := spvalue_any n c f lo hi t W hW (by unfold maxLen; omega)
    rw [spv_long hv (by omega)] at this
    exact this)
  have HS0 := Lib.hid (spec1_new w n c f lo hi)
  have HW := Lib.hid hw
  clear hw hv
  have t1 : decide ((999 : Int) < (s.size : Int)) = false := by simp; omega
  have H1 := Lib.hid h1
  have H2 := Lib.hid h2
  have H3 := Lib.hid h3
  have H4 := Lib.hid h4
  clear h1 h2 h3
  go_enter Tryd.func5, Tryd.ntmps5
  go_wp2_with fail
  refine (spawake_any _ (HW.out.below (below_al _ _))).mono ?_
  rintro e w1 ⟨rfl, hb1⟩
  have HS1 := Lib.hid (HS0.out.below hb1)
  obtain ⟨c0, c1, c2, c3, c4⟩ := obj_cells5 HS1.out.2
  clear hb1
  go_wp2_with fail
  refine (HK.out _ (HW.out.below HS1.out.1)).mono ?_
  rintro e w2 ⟨rfl, hb2⟩
  have HS2 := Lib.hid (HS1.out.below hb2)
  clear hb2 c0 c1 c2 c3 c4
  obtain ⟨c0, c1, c2, c3, c4⟩ := obj_cells5 HS2.out.2
  go_wp2
  go_loop [5] (fun v => ∃ t : ByteArray, v = .string t ∧ t.size ≤ hi + 1) (fun v => hi + 1 - (match v with | .string t => t.size | _ => 0))
  case atStart => exact ⟨s, rfl, by have := H3.out; omega⟩
  case round =>
    obtain ⟨t, rfl, ht⟩ := hrel
    by_cases hlt : t.size ≤ hi
    · have hadd : ∀ W : World, (Op.stringOp .add t ⟨#[48]⟩).run Tryd.prog W = .ok (.string (t ++ ⟨#[48]⟩)) W := fun W => run_string_add_sum W t ⟨#[48]⟩ (by have : (⟨#[48]⟩ : ByteArray).size = 1 := rfl; omega)
      have u1 : decide (t.size ≤ hi) = true := by simpa using hlt
      have u2 : decide ((t.size : Int) < 2000) = true := by simp; omega
      go_wp2
      go_round
      case rel => exact ⟨t ++ ⟨#[48]⟩, rfl, by rw [ByteArray.size_append]; have : (⟨#[48]⟩ : ByteArray).size = 1 := rfl; omega⟩
      case measure =>
        have e1 : (t ++ ⟨#[48]⟩ : ByteArray).size = t.size + 1 := by rw [ByteArray.size_append]; rfl
        show hi + 1 - (t ++ ⟨#[48]⟩ : ByteArray).size < hi + 1 - t.size
        omega
    · have u1 : decide (t.size ≤ hi) = false := by simpa using hlt
      have HT := Lib.hid (HL.out t (by omega) (by omega))
      have v1 : decide (lo ≤ s.size) = true := by have := H2.out; simpa using this
      have v2 : decide (s.size ≤ hi) = true := by have := H3.out; simpa using this
      have v3 : decide ((1 : Int) ≤ (s.size : Int)) = true := by have := H1.out; have := H2.out; simp; omega
      go_wp2_with fail
      refine (HT.out _ (HW.out.below HS2.out.1)).mono ?_
      rintro e w3 ⟨rfl, hb3⟩
      have HB3 := Lib.hid (hbt HS2.out.1 hb3)
      clear hb3 c0 c1 c2 c3 c4
      go_wp2
      go_ret
      exact ⟨rfl, HB3.out⟩
theorem sbounds_walk (n c f lo hi : Int) (s : ByteArray) (w : World) (hw : Kinds w) (hm : s.size ≤ maxLen) :
    Calls Tryd.prog 5 #[.agg #[.int .i64 n, .int .i64 c, .int .i64 f, .int .i64 lo, .int .i64 hi], .string s] w fun e w' => e = .returned (.bool true) ∧ Below w.heap.size w w' := by
  by_cases h : 999 < s.size
  · exact sbounds_long n c f lo hi s w hw hm h
  by_cases hv : spv n c f lo hi s = 0
  · obtain ⟨g1, g2, _, _⟩ := spv_in hv
    obtain ⟨_, k1, k2, k3⟩ := spk_in g1
    obtain ⟨lo, rfl⟩ := Int.eq_ofNat_of_zero_le (show 0 ≤ lo by omega)
    obtain ⟨hi, rfl⟩ := Int.eq_ofNat_of_zero_le (show 0 ≤ hi by omega)
    exact sbounds_yes n c f lo hi s w hw hv (by omega) (by omega) (by omega) (by omega)
  · exact sbounds_no n c f lo hi s w hw (by omega) hv

set_option maxRecDepth 100000 in
set_option maxHeartbeats 3200000 in
theorem skeeps_long (n c f lo hi n' c' f' lo' hi' : Int) (s : ByteArray) (w : World) (hw : Kinds w) (hm : s.size ≤ maxLen) (hl : 2000 < s.size) :
    Calls Tryd.prog 7 #[.agg #[.int .i64 n, .int .i64 c, .int .i64 f, .int .i64 lo, .int .i64 hi], .agg #[.int .i64 n', .int .i64 c', .int .i64 f', .int .i64 lo', .int .i64 hi'], .string s] w fun e w' => e = .returned (.bool true) ∧ Below w.heap.size w w' := by
  unfold maxLen at hm
  have HS0 := Lib.hid (specs_new w n c f lo hi n' c' f' lo' hi')
  have HW := Lib.hid hw
  clear hw
  have t1 : decide ((2000 : Int) < (s.size : Int)) = true := by simp; omega
  go_enter Tryd.func7, Tryd.ntmps7
  go_wp2_with fail
  refine (spawake_any _ (HW.out.below HS0.out.1)).mono ?_
  rintro e w1 ⟨rfl, hb1⟩
  have HB1 := Lib.hid (HS0.out.below hb1).1
  clear hb1
  go_wp2_with fail
  refine (spawake_any _ (HW.out.below HB1.out)).mono ?_
  rintro e w2 ⟨rfl, hb2⟩
  have HB2 := Lib.hid (hbt HB1.out hb2)
  clear hb2
  go_wp2
  go_ret
  exact ⟨rfl, HB2.out⟩
set_option maxRecDepth 100000 in
set_option maxHeartbeats 3200000 in
theorem skeeps_no (n c f lo hi n' c' f' lo' hi' : Int) (s : ByteArray) (w : World) (hw : Kinds w) (hl : s.size ≤ 2000) (h : spw n c f lo hi n' c' f' lo' hi' = false) :
    Calls Tryd.prog 7 #[.agg #[.int .i64 n, .int .i64 c, .int .i64 f, .int .i64 lo, .int .i64 hi], .agg #[.int .i64 n', .int .i64 c', .int .i64 f', .int .i64 lo', .int .i64 hi'], .string s] w fun e w' => e = .returned (.bool true) ∧ Below w.heap.size w w' := by
  have HK := Lib.hid (fun W hW => spwider_any n c f lo hi n' c' f' lo' hi' W hW)
  rw [h] at HK
  have HS0 := Lib.hid (specs_new w n c f lo hi n' c' f' lo' hi')
  have HW := Lib.hid hw
  clear hw h
  have t1 : decide ((2000 : Int) < (s.size : Int)) = false := by simp; omega
  go_enter Tryd.func7, Tryd.ntmps7
  go_wp2_with fail
  refine (spawake_any _ (HW.out.below HS0.out.1)).mono ?_
  rintro e w1 ⟨rfl, hb1⟩
  have HS1 := Lib.hid (HS0.out.below hb1)
  obtain ⟨⟨c0, c1, c2, c3, c4⟩, d0, d1, d2, d3, d4⟩ := HS1.out.cells
  clear hb1
  go_wp2_with fail
  refine (HK.out _ (HW.out.below HS1.out.1)).mono ?_
  rintro e w2 ⟨rfl, hb2⟩
  have HB2 := Lib.hid (HS1.out.below hb2).1
  clear hb2 c0 c1 c2 c3 c4 d0 d1 d2 d3 d4
  go_wp2_with fail
  refine (spawake_any _ (HW.out.below HB2.out)).mono ?_
  rintro e w3 ⟨rfl, hb3⟩
  have HB3 := Lib.hid (hbt HB2.out hb3)
  clear hb3
  go_wp2
  go_ret
  exact ⟨rfl, HB3.out⟩
set_option maxRecDepth 100000 in
set_option maxHeartbeats 3200000 in
theorem skeeps_val (n c f lo hi n' c' f' lo' hi' : Int) (s : ByteArray) (w : World) (hw : Kinds w) (hl : s.size ≤ 2000) (h : spw n c f lo hi n' c' f' lo' hi' = true) (hv : spv n' c' f' lo' hi' s ≠ 0) :
    Calls Tryd.prog 7 #[.agg #[.int .i64 n, .int .i64 c, .int .i64 f, .int .i64 lo, .int .i64 hi], .agg #[.int .i64 n', .int .i64 c', .int .i64 f', .int .i64 lo', .int .i64 hi'], .string s] w fun e w' => e = .returned (.bool true) ∧ Below w.heap.size w w' := by
  have HK := Lib.hid (fun W hW => spwider_any n c f lo hi n' c' f' lo' hi' W hW)
  rw [h] at HK
  have HV := Lib.hid (fun W hW => spvalue_any n' c' f' lo' hi' s W hW (by unfold maxLen; omega))
  generalize spv n' c' f' lo' hi' s = x at *
  have HS0 := Lib.hid (specs_new w n c f lo hi n' c' f' lo' hi')
  have HW := Lib.hid hw
  have t1 : decide ((2000 : Int) < (s.size : Int)) = false := by simp; omega
  have t2 : (x != 0) = true := by simpa using hv
  clear hw h hv
  go_enter Tryd.func7, Tryd.ntmps7
  go_wp2_with fail
  refine (spawake_any _ (HW.out.below HS0.out.1)).mono ?_
  rintro e w1 ⟨rfl, hb1⟩
  have HS1 := Lib.hid (HS0.out.below hb1)
  obtain ⟨⟨c0, c1, c2, c3, c4⟩, d0, d1, d2, d3, d4⟩ := HS1.out.cells
  clear hb1
  go_wp2_with fail
  refine (HK.out _ (HW.out.below HS1.out.1)).mono ?_
  rintro e w2 ⟨rfl, hb2⟩
  have HS2 := Lib.hid (HS1.out.below hb2)
  clear hb2 c0 c1 c2 c3 c4 d0 d1 d2 d3 d4
  obtain ⟨⟨c0, c1, c2, c3, c4⟩, d0, d1, d2, d3, d4⟩ := HS2.out.cells
  go_wp2_with fail
  refine (HV.out _ (HW.out.below HS2.out.1)).mono ?_
  rintro e w3 ⟨rfl, hb3⟩
  have HB3 := Lib.hid (HS2.out.below hb3).1
  clear hb3 c0 c1 c2 c3 c4 d0 d1 d2 d3 d4
  go_wp2_with fail
  refine (spawake_any _ (HW.out.below HB3.out)).mono ?_
  rintro e w4 ⟨rfl, hb4⟩
  have HB4 := Lib.hid (hbt HB3.out hb4)
  clear hb4
  go_wp2
  go_ret
  exact ⟨rfl, HB4.out⟩
set_option maxRecDepth 100000 in
set_option maxHeartbeats 3200000 in
theorem skeeps_yes (n c f lo hi n' c' f' lo' hi' : Int) (s : ByteArray) (w : World) (hw : Kinds w) (hl : s.size ≤ 2000) (h : spw n c f lo hi n' c' f' lo' hi' = true) (hv : spv n' c' f' lo' hi' s = 0) :
    Calls Tryd.prog 7 #[.agg #[.int .i64 n, .int .i64 c, .int .i64 f, .int .i64 lo, .int .i64 hi], .agg #[.int .i64 n', .int .i64 c', .int .i64 f', .int .i64 lo', .int .i64 hi'], .string s] w fun e w' => e = .returned (.bool true) ∧ Below w.heap.size w w' := by
  have HK := Lib.hid (fun W hW => spwider_any n c f lo hi n' c' f' lo' hi' W hW)
  have HV := Lib.hid (fun W hW => spvalue_any n' c' f' lo' hi' s W hW (by unfold maxLen; omega))
  have HV' := Lib.hid (fun W hW => spvalue_any n c f lo hi s W hW (by unfold maxLen; omega))
  rw [spw_keeps h hv] at HV'
  rw [h] at HK
  rw [hv] at HV
  have HS0 := Lib.hid (specs_new w n c f lo hi n' c' f' lo' hi')
  have HW := Lib.hid hw
  have t1 : decide ((2000 : Int) < (s.size : Int)) = false := by simp; omega
  clear hw h hv
  go_enter Tryd.func7, Tryd.ntmps7
  go_wp2_with fail
  refine (spawake_any _ (HW.out.below HS0.out.1)).mono ?_
  rintro e w1 ⟨rfl, hb1⟩
  have HS1 := Lib.hid (HS0.out.below hb1)
  obtain ⟨⟨c0, c1, c2, c3, c4⟩, d0, d1, d2, d3, d4⟩ := HS1.out.cells
  clear hb1
  go_wp2_with fail
  refine (HK.out _ (HW.out.below HS1.out.1)).mono ?_
  rintro e w2 ⟨rfl, hb2⟩
  have HS2 := Lib.hid (HS1.out.below hb2)
  clear hb2 c0 c1 c2 c3 c4 d0 d1 d2 d3 d4
  obtain ⟨⟨c0, c1, c2, c3, c4⟩, d0, d1, d2, d3, d4⟩ := HS2.out.cells
  go_wp2_with fail
  refine (HV.out _ (HW.out.below HS2.out.1)).mono ?_
  rintro e w3 ⟨rfl, hb3⟩
  have HS3 := Lib.hid (HS2.out.below hb3)
  clear hb3 c0 c1 c2 c3 c4 d0 d1 d2 d3 d4
  obtain ⟨⟨c0, c1, c2, c3, c4⟩, d0, d1, d2, d3, d4⟩ := HS3.out.cells
  go_wp2_with fail
  refine (HV'.out _ (HW.out.below HS3.out.1)).mono ?_
  rintro e w4 ⟨rfl, hb4⟩
  have HB4 := Lib.hid (HS3.out.below hb4).1
  clear hb4 c0 c1 c2 c3 c4 d0 d1 d2 d3 d4
  go_wp2
  go_ret
  exact ⟨rfl, HB4.out⟩
theorem skeeps_walk (n c f lo hi n' c' f' lo' hi' : Int) (s : ByteArray) (w : World) (hw : Kinds w) (hm : s.size ≤ maxLen) :
    Calls Tryd.prog 7 #[.agg #[.int .i64 n, .int .i64 c, .int .i64 f, .int .i64 lo, .int .i64 hi], .agg #[.int .i64 n', .int .i64 c', .int .i64 f', .int .i64 lo', .int .i64 hi'], .string s] w fun e w' => e = .returned (.bool true) ∧ Below w.heap.size w w' := by
  by_cases hl : 2000 < s.size
  · exact skeeps_long n c f lo hi n' c' f' lo' hi' s w hw hm hl
  cases h : spw n c f lo hi n' c' f' lo' hi'
  · exact skeeps_no n c f lo hi n' c' f' lo' hi' s w hw (by omega) h
  by_cases hv : spv n' c' f' lo' hi' s = 0
  · exact skeeps_yes n c f lo hi n' c' f' lo' hi' s w hw (by omega) h hv
  · exact skeeps_val n c f lo hi n' c' f' lo' hi' s w hw (by omega) h hv

end Go.Proofs.YtmobillfeldcjaaDoor
