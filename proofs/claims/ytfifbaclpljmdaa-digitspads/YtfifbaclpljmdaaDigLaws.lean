/-
  The laws of layer 1 that hold each answer against the document's own: each returns true, for every input, in every world.
-/
import Derived.Test.YtfifbaclpljmdaaDigRefPad
namespace Go.Proofs.Ytfifbaclpljmdaa
open Go.RowKit

theorem awk_put (w : World) : Calls Try.prog 8 #[.int .i64 42, .int .i64 4] w fun e w' => e = .returned (.tuple #[.string ⟨#[48, 48, 52, 50]⟩, .bool true]) ∧ Below w.heap.size w w' := by
  have h := put_any 42 4 w (by omega)
  rw [show putS 42 4 = ⟨#[48, 48, 52, 50]⟩ from by decide +kernel, show putB 42 4 = true from by decide +kernel] at h
  exact h
theorem awk_get (w : World) : Calls Try.prog 11 #[.string ⟨#[48, 48, 52, 50]⟩] w fun e w' => e = .returned (.tuple #[.int .i64 42, .bool true]) ∧ Below w.heap.size w w' := by
  have h := get_any ⟨#[48, 48, 52, 50]⟩ w (by decide)
  rw [show getN (ByteArray.mk #[48, 48, 52, 50]).data.toList = 42 from by decide +kernel, show getB (ByteArray.mk #[48, 48, 52, 50]).data.toList = true from by decide +kernel] at h
  exact h
theorem awk_pad1 (w : World) : Calls Try.prog 15 #[.string ⟨#[48, 48, 55]⟩, .int .i64 1] w fun e w' => e = .returned (.tuple #[.string ⟨#[55]⟩, .bool true]) ∧ Below w.heap.size w w' := by
  have h := pad_any ⟨#[48, 48, 55]⟩ 1 w (by decide)
  rw [show padS (ByteArray.mk #[48, 48, 55]).data.toList 1 = ⟨#[55]⟩ from by decide +kernel, show padB (ByteArray.mk #[48, 48, 55]).data.toList 1 = true from by decide +kernel] at h
  exact h
theorem awk_pad2 (w : World) : Calls Try.prog 15 #[.string ⟨#[49, 48, 55]⟩, .int .i64 2] w fun e w' => e = .returned (.tuple #[.string ⟨#[]⟩, .bool false]) ∧ Below w.heap.size w w' := by
  have h := pad_any ⟨#[49, 48, 55]⟩ 2 w (by decide)
  rw [show padS (ByteArray.mk #[49, 48, 55]).data.toList 2 = ⟨#[]⟩ from by decide +kernel, show padB (ByteArray.mk #[49, 48, 55]).data.toList 2 = false from by decide +kernel] at h
  exact h
theorem awk_all1 (w : World) : Calls Try.prog 13 #[.string ⟨#[48, 57]⟩] w fun e w' => e = .returned (.bool true) ∧ Below w.heap.size w w' := by
  have h := all_any ⟨#[48, 57]⟩ w
  rw [show allD (ByteArray.mk #[48, 57]).data.toList = true from by decide +kernel] at h
  exact h
theorem awk_all2 (w : World) : Calls Try.prog 13 #[.string ⟨#[48, 97]⟩] w fun e w' => e = .returned (.bool false) ∧ Below w.heap.size w w' := by
  have h := all_any ⟨#[48, 97]⟩ w
  rw [show allD (ByteArray.mk #[48, 97]).data.toList = false from by decide +kernel] at h
  exact h

theorem bt {a b c : World} (h : Below a.heap.size a b) (k : Below b.heap.size b c) : Below a.heap.size a c := h.trans (k.mono h.size)

set_option maxHeartbeats 1000000 in
theorem awake_any (w : World) : Calls Try.prog 10 #[] w fun e w' => e = .returned (.bool true) ∧ Below w.heap.size w w' := by
  go_enter Try.func10, Try.ntmps10
  go_wp2_with fail
  refine (awk_put _).mono ?_
  rintro e w1 ⟨rfl, hb1⟩
  go_wp2_with fail
  refine (awk_get _).mono ?_
  rintro e w2 ⟨rfl, hb2⟩
  go_wp2_with fail
  refine (awk_pad1 _).mono ?_
  rintro e w3 ⟨rfl, hb3⟩
  go_wp2_with fail
  refine (awk_pad2 _).mono ?_
  rintro e w4 ⟨rfl, hb4⟩
  go_wp2_with fail
  refine (awk_all1 _).mono ?_
  rintro e w5 ⟨rfl, hb5⟩
  go_wp2_with fail
  refine (awk_all2 _).mono ?_
  rintro e w6 ⟨rfl, hb6⟩
  go_wp2_with fail
  go_ret
  exact ⟨rfl, bt (bt (bt (bt (bt hb1 hb2) hb3) hb4) hb5) hb6⟩

set_option maxHeartbeats 1000000 in
theorem puts_any (n k : Int) (w : World) (_ : -9223372036854775808 ≤ n) (hn : n ≤ 9223372036854775807) (_ : -9223372036854775808 ≤ k) (_ : k ≤ 9223372036854775807) : Calls Try.prog 3 #[.int .i64 n, .int .i64 k] w fun e w' => e = .returned (.bool true) ∧ Below w.heap.size w w' := by
  go_enter Try.func3, Try.ntmps3
  go_wp2_with fail
  refine (put_any n k _ hn).mono ?_
  rintro e w1 ⟨rfl, hb1⟩
  go_wp2_with fail
  refine (refPut_any n k _ hn).mono ?_
  rintro e w2 ⟨rfl, hb2⟩
  go_wp2_with fail
  refine (awake_any _).mono ?_
  rintro e w3 ⟨rfl, hb3⟩
  go_wp2_with fail
  go_ret
  exact ⟨by simp, bt (bt hb1 hb2) hb3⟩

set_option maxHeartbeats 1000000 in
theorem gets_any (s : ByteArray) (w : World) (hs : s.size ≤ maxLen) : Calls Try.prog 4 #[.string s] w fun e w' => e = .returned (.bool true) ∧ Below w.heap.size w w' := by
  have hg := fun w => get_any s w hs
  have hr := fun w => refGet_any s w hs
  have ha := fun w => all_any s w
  have hra := fun w => refAll_any s w hs
  have HG := Lib.hid hg
  have HR := Lib.hid hr
  have HA := Lib.hid ha
  have HRA := Lib.hid hra
  clear hg hr ha hra
  unfold maxLen at hs
  by_cases h : 2000 < s.size
  · have t1 : decide ((2000 : Int) < (s.size : Int)) = true := by simp; omega
    go_enter Try.func4, Try.ntmps4
    go_wp2_with fail
    refine (awake_any _).mono ?_
    rintro e w1 ⟨rfl, hb1⟩
    go_wp2_with fail
    refine (awake_any _).mono ?_
    rintro e w2 ⟨rfl, hb2⟩
    go_wp2_with fail
    go_ret
    exact ⟨rfl, bt hb1 hb2⟩
  · have t1 : decide ((2000 : Int) < (s.size : Int)) = false := by simp; omega
    generalize s.data.toList = l at HG HR HA HRA
    go_enter Try.func4, Try.ntmps4
    go_wp2_with fail
    refine (awake_any _).mono ?_
    rintro e w1 ⟨rfl, hb1⟩
    go_wp2_with fail
    refine (HG.out _).mono ?_
    rintro e w2 ⟨rfl, hb2⟩
    go_wp2_with fail
    refine (HR.out _).mono ?_
    rintro e w3 ⟨rfl, rfl⟩
    go_wp2_with fail
    refine (HA.out _).mono ?_
    rintro e w4 ⟨rfl, hb4⟩
    go_wp2_with fail
    refine (HRA.out _).mono ?_
    rintro e w5 ⟨rfl, rfl⟩
    go_wp2_with fail
    go_ret
    exact ⟨by simp, bt (bt hb1 hb2) hb4⟩

set_option maxHeartbeats 1000000 in
theorem pads_any (s : ByteArray) (k : Int) (w : World) (hs : s.size ≤ maxLen) (_ : -9223372036854775808 ≤ k) (_ : k ≤ 9223372036854775807) : Calls Try.prog 5 #[.string s, .int .i64 k] w fun e w' => e = .returned (.bool true) ∧ Below w.heap.size w w' := by
  have hg := fun w => pad_any s k w hs
  have hr := fun w => refPad_any s k w hs
  have HG := Lib.hid hg
  have HR := Lib.hid hr
  clear hg hr
  unfold maxLen at hs
  by_cases h : 2000 < s.size
  · have t1 : decide ((2000 : Int) < (s.size : Int)) = true := by simp; omega
    go_enter Try.func5, Try.ntmps5
    go_wp2_with fail
    refine (awake_any _).mono ?_
    rintro e w1 ⟨rfl, hb1⟩
    go_wp2_with fail
    refine (awake_any _).mono ?_
    rintro e w2 ⟨rfl, hb2⟩
    go_wp2_with fail
    go_ret
    exact ⟨rfl, bt hb1 hb2⟩
  · have t1 : decide ((2000 : Int) < (s.size : Int)) = false := by simp; omega
    generalize s.data.toList = l at HG HR
    go_enter Try.func5, Try.ntmps5
    go_wp2_with fail
    refine (awake_any _).mono ?_
    rintro e w1 ⟨rfl, hb1⟩
    go_wp2_with fail
    refine (HG.out _).mono ?_
    rintro e w2 ⟨rfl, hb2⟩
    go_wp2_with fail
    refine (HR.out _).mono ?_
    rintro e w3 ⟨rfl, rfl⟩
    go_wp2_with fail
    go_ret
    exact ⟨by simp, bt hb1 hb2⟩

end Go.Proofs.Ytfifbaclpljmdaa
