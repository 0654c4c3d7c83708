/-
  The laws of layer 2: each returns true, for every input, in every world.
-/
import Derived.Test.YtjhagengcndhaaaHexRefPut
import Derived.Test.YtjhagengcndhaaaHexRefGet
namespace Go.Proofs.Ytjhagengcndhaaa
open Go.RowKit

theorem hbt {a b c : World} (h : Below a.heap.size a b) (k : Below b.heap.size b c) : Below a.heap.size a c := h.trans (k.mono h.size)

theorem hawk_get1 (w : World) : Calls Try.prog 11 #[.string ⟨#[48, 65, 70, 70]⟩] w fun e w' => e = .returned (.tuple #[.string ⟨#[10, 255]⟩, .int .i64 0, .bool true]) ∧ Below w.heap.size w w' := by
  have h := hget_any ⟨#[48, 65, 70, 70]⟩ w (by decide)
  rw [show hgetS (ByteArray.mk #[48, 65, 70, 70]).data.toList = ⟨#[10, 255]⟩ from by decide +kernel, show hgetI (ByteArray.mk #[48, 65, 70, 70]).data.toList = 0 from by decide +kernel, show hgetB (ByteArray.mk #[48, 65, 70, 70]).data.toList = true from by decide +kernel] at h
  exact h
theorem hawk_get2 (w : World) : Calls Try.prog 11 #[.string ⟨#[48, 97]⟩] w fun e w' => e = .returned (.tuple #[.string ⟨#[]⟩, .int .i64 1, .bool false]) ∧ Below w.heap.size w w' := by
  have h := hget_any ⟨#[48, 97]⟩ w (by decide)
  rw [show hgetS (ByteArray.mk #[48, 97]).data.toList = ⟨#[]⟩ from by decide +kernel, show hgetI (ByteArray.mk #[48, 97]).data.toList = 1 from by decide +kernel, show hgetB (ByteArray.mk #[48, 97]).data.toList = false from by decide +kernel] at h
  exact h
theorem hawk_get3 (w : World) : Calls Try.prog 11 #[.string ⟨#[48, 65, 70]⟩] w fun e w' => e = .returned (.tuple #[.string ⟨#[]⟩, .int .i64 3, .bool false]) ∧ Below w.heap.size w w' := by
  have h := hget_any ⟨#[48, 65, 70]⟩ w (by decide)
  rw [show hgetS (ByteArray.mk #[48, 65, 70]).data.toList = ⟨#[]⟩ from by decide +kernel, show hgetI (ByteArray.mk #[48, 65, 70]).data.toList = 3 from by decide +kernel, show hgetB (ByteArray.mk #[48, 65, 70]).data.toList = false from by decide +kernel] at h
  exact h
theorem hawk_put (w : World) : Calls Try.prog 13 #[.string ⟨#[10, 255]⟩] w fun e w' => e = .returned (.string ⟨#[48, 65, 70, 70]⟩) ∧ Below w.heap.size w w' := by
  have h := hput_any ⟨#[10, 255]⟩ w (by decide)
  rw [show (hputL (ByteArray.mk #[10, 255]).data.toList).toArray = #[48, 65, 70, 70] from by decide +kernel] at h
  exact h

set_option maxHeartbeats 1000000 in
theorem hawake_any (w : World) : Calls Try.prog 10 #[] w fun e w' => e = .returned (.bool true) ∧ Below w.heap.size w w' := by
  go_enter Try.func10, Try.ntmps10
  go_wp2_with fail
  refine (hawk_get1 _).mono ?_
  rintro e w1 ⟨rfl, hb1⟩
  go_wp2_with fail
  refine (hawk_get2 _).mono ?_
  rintro e w2 ⟨rfl, hb2⟩
  go_wp2_with fail
  refine (hawk_get3 _).mono ?_
  rintro e w3 ⟨rfl, hb3⟩
  go_wp2_with fail
  refine (hawk_put _).mono ?_
  rintro e w4 ⟨rfl, hb4⟩
  go_wp2_with fail
  go_ret
  exact ⟨rfl, hbt (hbt (hbt hb1 hb2) hb3) hb4⟩

set_option maxHeartbeats 1000000 in
theorem hdigits_law (n : Int) (w : World) (h0 : 0 ≤ n) (h1 : n ≤ 255) : Calls Try.prog 3 #[.int .u8 n] w fun e w' => e = .returned (.bool true) ∧ Below w.heap.size w w' := by
  obtain ⟨c, hc⟩ : ∃ c : UInt8, (c.toNat : Int) = n := ⟨UInt8.ofNat n.toNat, by rw [UInt8.toNat_ofNat', Nat.mod_eq_of_lt (by omega)]; omega⟩
  subst hc
  clear h0 h1
  cases hx : isX c
  · have HD := Lib.hid (fun w => digit_no c w hx)
    have HW := Lib.hid (fun w => worth_no c w hx)
    clear hx
    go_enter Try.func3, Try.ntmps3
    go_wp2_with fail
    refine (HD.out _).mono ?_
    rintro e w1 ⟨rfl, rfl⟩
    go_wp2_with fail
    refine (HW.out _).mono ?_
    rintro e w1 ⟨rfl, rfl⟩
    go_wp2_with fail
    refine (hawake_any _).mono ?_
    rintro e w3 ⟨rfl, hb3⟩
    go_wp2_with fail
    go_ret
    exact ⟨rfl, hb3⟩
  · have HD := Lib.hid (fun w => digit_yes c w hx)
    have HW := Lib.hid (fun w => worth_yes c w hx)
    have hv : xv c < 16 := xv_lt hx
    clear hx
    generalize xv c = v at HD HW hv
    have h2 : (0 : Int) ≤ (v : Int) := by omega
    go_enter Try.func3, Try.ntmps3
    go_wp2_with fail
    refine (HD.out _).mono ?_
    rintro e w1 ⟨rfl, rfl⟩
    go_wp2_with fail
    refine (HW.out _).mono ?_
    rintro e w1 ⟨rfl, rfl⟩
    go_wp2_with fail
    refine (hawake_any _).mono ?_
    rintro e w3 ⟨rfl, hb3⟩
    go_wp2_with fail
    go_ret
    exact ⟨by simp, hb3⟩

set_option maxHeartbeats 1000000 in
theorem hgets_law (s : ByteArray) (w : World) (hs : s.size ≤ maxLen) : Calls Try.prog 4 #[.string s] w fun e w' => e = .returned (.bool true) ∧ Below w.heap.size w w' := by
  unfold maxLen at hs
  by_cases h : 2000 < s.size
  · have t1 : decide ((2000 : Int) < (s.size : Int)) = true := by simp; omega
    go_enter Try.func4, Try.ntmps4
    go_wp2_with fail
    refine (hawake_any _).mono ?_
    rintro e w1 ⟨rfl, hb1⟩
    go_wp2_with fail
    refine (hawake_any _).mono ?_
    rintro e w2 ⟨rfl, hb2⟩
    go_wp2_with fail
    go_ret
    exact ⟨rfl, hbt hb1 hb2⟩
  · have t1 : decide ((2000 : Int) < (s.size : Int)) = false := by simp; omega
    have HG := Lib.hid (fun w => hget_any s w (by omega))
    have HR := Lib.hid (fun w => hrefGet_any s w (by omega))
    generalize s.data.toList = l at HG HR
    go_enter Try.func4, Try.ntmps4
    go_wp2_with fail
    refine (hawake_any _).mono ?_
    rintro e w1 ⟨rfl, hb1⟩
    go_wp2_with fail
    refine (HG.out _).mono ?_
    rintro e w2 ⟨rfl, hb2⟩
    go_wp2_with fail
    refine (HR.out _).mono ?_
    rintro e w3 ⟨rfl, hb3⟩
    go_wp2_with fail
    go_ret
    exact ⟨by simp, hbt (hbt hb1 hb2) hb3⟩

set_option maxHeartbeats 1000000 in
theorem hback_law (s : ByteArray) (w : World) (hs : s.size ≤ maxLen) : Calls Try.prog 5 #[.string s] w fun e w' => e = .returned (.bool true) ∧ Below w.heap.size w w' := by
  unfold maxLen at hs
  by_cases h : 1000 < s.size
  · have t1 : decide ((1000 : Int) < (s.size : Int)) = true := by simp; omega
    go_enter Try.func5, Try.ntmps5
    go_wp2_with fail
    refine (hawake_any _).mono ?_
    rintro e w1 ⟨rfl, hb1⟩
    go_wp2_with fail
    refine (hawake_any _).mono ?_
    rintro e w2 ⟨rfl, hb2⟩
    go_wp2_with fail
    go_ret
    exact ⟨rfl, hbt hb1 hb2⟩
  · have t1 : decide ((1000 : Int) < (s.size : Int)) = false := by simp; omega
    have HP := Lib.hid (fun w => hput_any s w (by omega))
    have HR := Lib.hid (fun w => hrefPut_any s w (by omega))
    have hg : ∀ w, Calls Try.prog 11 #[.string ⟨(hputL s.data.toList).toArray⟩] w fun e w' => e = .returned (.tuple #[.string s, .int .i64 0, .bool true]) ∧ Below w.heap.size w w' := by
      intro w
      have h := hget_any ⟨(hputL s.data.toList).toArray⟩ w (by show (hputL s.data.toList).toArray.size ≤ _; simp [hputL_length]; omega)
      have hb := hgetB_hputL s.data.toList
      have e1 : (ByteArray.mk (hputL s.data.toList).toArray).data.toList = hputL s.data.toList := by simp
      rw [e1, hgetS_yes hb, hgetI_yes hb, hb, hgetL_hputL] at h
      exact h
    have HG := Lib.hid hg; clear hg
    generalize (⟨(hputL s.data.toList).toArray⟩ : ByteArray) = t at HP HR HG
    go_enter Try.func5, Try.ntmps5
    go_wp2_with fail
    refine (hawake_any _).mono ?_
    rintro e w1 ⟨rfl, hb1⟩
    go_wp2_with fail
    refine (HP.out _).mono ?_
    rintro e w2 ⟨rfl, hb2⟩
    go_wp2_with fail
    refine (HG.out _).mono ?_
    rintro e w3 ⟨rfl, hb3⟩
    go_wp2_with fail
    refine (HR.out _).mono ?_
    rintro e w4 ⟨rfl, hb4⟩
    go_wp2_with fail
    go_ret
    exact ⟨by simp, hbt (hbt (hbt hb1 hb2) hb3) hb4⟩

set_option maxHeartbeats 1000000 in
theorem hone_law (s : ByteArray) (w : World) (hs : s.size ≤ maxLen) : Calls Try.prog 6 #[.string s] w fun e w' => e = .returned (.bool true) ∧ Below w.heap.size w w' := by
  unfold maxLen at hs
  by_cases h : 1000 < s.size
  · have t1 : decide ((1000 : Int) < (s.size : Int)) = true := by simp; omega
    go_enter Try.func6, Try.ntmps6
    go_wp2_with fail
    refine (hawake_any _).mono ?_
    rintro e w1 ⟨rfl, hb1⟩
    go_wp2_with fail
    refine (hawake_any _).mono ?_
    rintro e w2 ⟨rfl, hb2⟩
    go_wp2_with fail
    go_ret
    exact ⟨rfl, hbt hb1 hb2⟩
  · have t1 : decide ((1000 : Int) < (s.size : Int)) = false := by simp; omega
    have hg := fun w => hget_any s w (by omega)
    have hl : s.data.toList.length = s.size := by simp
    cases hb : hgetB s.data.toList
    · rw [hgetS_no hb, hgetI_no hb, hb] at hg
      have hle := hbad_le s.data.toList
      rw [hl] at hle
      generalize hbad s.data.toList = n at hg hle
      have HG := Lib.hid hg; clear hg hb hl
      have h2 : (0 : Int) ≤ (n : Int) := by omega
      go_enter Try.func6, Try.ntmps6
      go_wp2_with fail
      refine (hawake_any _).mono ?_
      rintro e w1 ⟨rfl, hb1⟩
      go_wp2_with fail
      refine (HG.out _).mono ?_
      rintro e w2 ⟨rfl, hb2⟩
      go_wp2_with fail
      go_ret
      exact ⟨by simp, hbt hb1 hb2⟩
    · rw [hgetS_yes hb, hgetI_yes hb, hb] at hg
      have hi := hgetB_iff hb
      have hp : ∀ w, Calls Try.prog 13 #[.string ⟨(hgetL s.data.toList).toArray⟩] w fun e w' => e = .returned (.string s) ∧ Below w.heap.size w w' := by
        intro w
        have h := hput_any ⟨(hgetL s.data.toList).toArray⟩ w (by show (hgetL s.data.toList).toArray.size ≤ _; simp [hgetL_length]; omega)
        have e1 : (ByteArray.mk (hgetL s.data.toList).toArray).data.toList = hgetL s.data.toList := by simp
        rw [e1, hputL_hgetL _ hi.1 hi.2] at h
        exact h
      generalize (⟨(hgetL s.data.toList).toArray⟩ : ByteArray) = t at hg hp
      have HG := Lib.hid hg
      have HP := Lib.hid hp
      clear hg hp hb hi hl
      go_enter Try.func6, Try.ntmps6
      go_wp2_with fail
      refine (hawake_any _).mono ?_
      rintro e w1 ⟨rfl, hb1⟩
      go_wp2_with fail
      refine (HG.out _).mono ?_
      rintro e w2 ⟨rfl, hb2⟩
      go_wp2_with fail
      refine (HP.out _).mono ?_
      rintro e w3 ⟨rfl, hb3⟩
      go_wp2_with fail
      go_ret
      exact ⟨by simp, hbt (hbt hb1 hb2) hb3⟩

set_option maxHeartbeats 1000000 in
theorem hparts_law (a b : ByteArray) (w : World) (ha : a.size ≤ maxLen) (hb : b.size ≤ maxLen) : Calls Try.prog 7 #[.string a, .string b] w fun e w' => e = .returned (.bool true) ∧ Below w.heap.size w w' := by
  unfold maxLen at ha hb
  by_cases h1 : 1000 < a.size
  · have t1 : decide ((1000 : Int) < (a.size : Int)) = true := by simp; omega
    go_enter Try.func7, Try.ntmps7
    go_wp2_with fail
    refine (hawake_any _).mono ?_
    rintro e w1 ⟨rfl, hb1⟩
    go_wp2_with fail
    refine (hawake_any _).mono ?_
    rintro e w2 ⟨rfl, hb2⟩
    go_wp2_with fail
    go_ret
    exact ⟨rfl, hbt hb1 hb2⟩
  · have t1 : decide ((1000 : Int) < (a.size : Int)) = false := by simp; omega
    by_cases h2 : 1000 < b.size
    · have t2 : decide ((1000 : Int) < (b.size : Int)) = true := by simp; omega
      go_enter Try.func7, Try.ntmps7
      go_wp2_with fail
      refine (hawake_any _).mono ?_
      rintro e w1 ⟨rfl, hb1⟩
      go_wp2_with fail
      refine (hawake_any _).mono ?_
      rintro e w2 ⟨rfl, hb2⟩
      go_wp2_with fail
      go_ret
      exact ⟨rfl, hbt hb1 hb2⟩
    · have t2 : decide ((1000 : Int) < (b.size : Int)) = false := by simp; omega
      have HA := Lib.hid (fun w => hput_any a w (by omega))
      have HB := Lib.hid (fun w => hput_any b w (by omega))
      have hab : ∀ w, Calls Try.prog 13 #[.string (a ++ b)] w fun e w' => e = .returned (.string (⟨(hputL a.data.toList).toArray⟩ ++ ⟨(hputL b.data.toList).toArray⟩)) ∧ Below w.heap.size w w' := by
        intro w
        have h := hput_any (a ++ b) w (by rw [ByteArray.size_append]; omega)
        have e1 : (a ++ b).data.toList = a.data.toList ++ b.data.toList := by simp
        have e2 : (⟨(hputL a.data.toList ++ hputL b.data.toList).toArray⟩ : ByteArray) = ⟨(hputL a.data.toList).toArray⟩ ++ ⟨(hputL b.data.toList).toArray⟩ := by
          rw [ByteArray.mk_append_mk]
        rw [e1, hputL_append, e2] at h
        exact h
      have hadd : ∀ W : World, (Op.stringOp .add a b).run Try.prog W = .ok (.string (a ++ b)) W := fun W => run_string_add_sum W a b (by omega)
      have hsa : (⟨(hputL a.data.toList).toArray⟩ : ByteArray).size ≤ 2000 := by show (hputL a.data.toList).toArray.size ≤ _; simp [hputL_length]; omega
      have hsb : (⟨(hputL b.data.toList).toArray⟩ : ByteArray).size ≤ 2000 := by show (hputL b.data.toList).toArray.size ≤ _; simp [hputL_length]; omega
      generalize (⟨(hputL a.data.toList).toArray⟩ : ByteArray) = x at HA hab hsa
      generalize (⟨(hputL b.data.toList).toArray⟩ : ByteArray) = y at HB hab hsb
      have hadd2 : ∀ W : World, (Op.stringOp .add x y).run Try.prog W = .ok (.string (x ++ y)) W := fun W => run_string_add_sum W x y (by omega)
      have HAB := Lib.hid hab; clear hab
      go_enter Try.func7, Try.ntmps7
      go_wp2_with fail
      refine (hawake_any _).mono ?_
      rintro e w1 ⟨rfl, hb1⟩
      go_wp2_with fail
      refine (HAB.out _).mono ?_
      rintro e w2 ⟨rfl, hb2⟩
      go_wp2_with fail
      refine (HA.out _).mono ?_
      rintro e w3 ⟨rfl, hb3⟩
      go_wp2_with fail
      refine (HB.out _).mono ?_
      rintro e w4 ⟨rfl, hb4⟩
      go_wp2_with fail
      go_ret
      exact ⟨by simp, hbt (hbt (hbt hb1 hb2) hb3) hb4⟩

end Go.Proofs.Ytjhagengcndhaaa
