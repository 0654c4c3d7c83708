/-
  The laws PrefixPuts and PrefixGets, walked: each returns true, for every input, in every world.
-/
import Derived.Test.YtafcdokgjkfikaaPfxAwake
import Derived.Test.YtafcdokgjkfikaaPfxRefGet
import Derived.Test.YtafcdokgjkfikaaObjs
namespace Go.Proofs.Ytafcdokgjkfikaa
open Go.RowKit

set_option maxHeartbeats 800000 in
theorem pputs_both (st f n : Int) (x : ByteArray) (k : Int) (w : World)
    (hp : ∀ W, Calls Try.prog 8 #[.int .i64 st, .int .i64 f, .int .i64 n] W fun e w' => e = .returned (.tuple #[.string x, .int .i64 k]) ∧ Below W.heap.size W w')
    (hr : ∀ W, Calls Try.prog 9 #[.int .i64 st, .int .i64 f, .int .i64 n] W fun e w' => e = .returned (.tuple #[.string x, .int .i64 k]) ∧ Below W.heap.size W w') :
    Calls Try.prog 3 #[.int .i64 st, .int .i64 f, .int .i64 n] w fun e w' => e = .returned (.bool true) ∧ Below w.heap.size w w' := by
  have HA := Lib.hid pwake_any
  have HP := Lib.hid hp
  have HR := Lib.hid hr
  clear hp hr
  go_enter Try.func3, Try.ntmps3
  go_wp2_with fail
  refine (HP.out _).mono ?_
  rintro e w1 ⟨rfl, hb1⟩
  go_wp2_with fail
  refine (HR.out _).mono ?_
  rintro e w2 ⟨rfl, hb2⟩
  go_wp2_with fail
  refine (HA.out _).mono ?_
  rintro e w3 ⟨rfl, hb3⟩
  go_wp2
  go_ret
  exact ⟨rfl, hbt (hbt hb1 hb2) hb3⟩

theorem prefixPuts_walk (st f n : Int) (w : World) (_h1 : -9223372036854775808 ≤ st) (_h2 : st ≤ 9223372036854775807) (_h3 : -9223372036854775808 ≤ f) (_h4 : f ≤ 9223372036854775807) (_h5 : -9223372036854775808 ≤ n) (h6 : n ≤ 9223372036854775807) :
    Calls Try.prog 3 #[.int .i64 st, .int .i64 f, .int .i64 n] w fun e w' => e = .returned (.bool true) ∧ Below w.heap.size w w' := by
  by_cases ha : (st ≠ 1 ∧ st ≠ 2) ∨ (f ≠ 2 ∧ f ≠ 3)
  · exact pputs_both st f n _ _ w (fun W => pput_arg st f n W ha) (fun W => prefPut_arg st f n W ha)
  have hst : st = 1 ∨ st = 2 := by omega
  have hf : f = 2 ∨ f = 3 := by omega
  by_cases hn : n < 0 ∨ (10 ^ f.toNat : Int) ≤ n
  · exact pputs_both st f n _ _ w (fun W => pput_range st f n W hst hf h6 hn) (fun W => prefPut_range st f n W hst hf h6 hn)
  obtain ⟨hn0, hn1⟩ := not_or.1 hn
  obtain ⟨st, rfl⟩ := Int.eq_ofNat_of_zero_le (show 0 ≤ st by omega)
  obtain ⟨f, rfl⟩ := Int.eq_ofNat_of_zero_le (show 0 ≤ f by omega)
  obtain ⟨n, rfl⟩ := Int.eq_ofNat_of_zero_le (show 0 ≤ n by omega)
  have hn2 : n < 10 ^ f := by
    rcases (show f = 2 ∨ f = 3 by omega) with rfl | rfl
    · simp at hn1; omega
    · simp at hn1; omega
  exact pputs_both st f n _ _ w (fun W => pput_ok st f n W (by omega) (by omega) hn2) (fun W => prefPut_ok st f n W (by omega) (by omega) hn2)

set_option maxHeartbeats 800000 in
theorem pgets_far (st f p : Int) (s : ByteArray) (w : World) (hs : 500 < s.size) (hm : s.size ≤ maxLen) :
    Calls Try.prog 4 #[.agg #[.int .i64 st, .int .i64 f], .string s, .int .i64 p] w fun e w' => e = .returned (.bool true) ∧ Below w.heap.size w w' := by
  have HA := Lib.hid pwake_any
  have hd : decide ((500 : Int) < (s.size : Int)) = true := by simp; omega
  have HM := Lib.hid hm
  clear hm hs
  go_enter Try.func4, Try.ntmps4
  go_wp2_with fail
  refine (HA.out _).mono ?_
  rintro e w1 ⟨rfl, hb1⟩
  go_wp2_with fail
  refine (HA.out _).mono ?_
  rintro e w2 ⟨rfl, hb2⟩
  have HB2 := Lib.hid (hbt (hbt (below_al _ _) hb1) hb2)
  clear hb1 hb2
  go_wp2
  go_ret
  exact ⟨rfl, HB2.out⟩

set_option maxHeartbeats 1600000 in
theorem pgets_near (st f p : Int) (s : ByteArray) (n m k : Nat) (w : World) (hs : s.size ≤ 500)
    (hg : ∀ W, Calls Try.prog 11 #[.int .i64 st, .int .i64 f, .string s, .int .i64 p] W fun e w' => e = .returned (.tuple #[.int .i64 (n : Int), .int .i64 (m : Int), .int .i64 (k : Int)]) ∧ Below W.heap.size W w')
    (hr : ∀ W, Calls Try.prog 12 #[.int .i64 st, .int .i64 f, .string s, .int .i64 p] W fun e w' => e = .returned (.tuple #[.int .i64 (n : Int), .int .i64 (m : Int), .int .i64 (k : Int)]) ∧ Below W.heap.size W w') :
    Calls Try.prog 4 #[.agg #[.int .i64 st, .int .i64 f], .string s, .int .i64 p] w fun e w' => e = .returned (.bool true) ∧ Below w.heap.size w w' := by
  have HA := Lib.hid pwake_any
  have HG := Lib.hid hg
  have HR := Lib.hid hr
  have hd : decide ((500 : Int) < (s.size : Int)) = false := by simp; omega
  clear hg hr
  go_enter Try.func4, Try.ntmps4
  go_wp2_with fail
  refine (HA.out _).mono ?_
  rintro e w1 ⟨rfl, hb1⟩
  have h1 := obj_below (heap_alloc_new w (.cells #[.int .i64 st, .int .i64 f] 29)) hb1
  obtain ⟨c0, c1, _, _⟩ := obj_cells h1
  have H1 := Lib.hid h1
  have HB1 := Lib.hid (hbt (below_al _ _) hb1)
  clear hb1 h1
  go_wp2_with fail
  refine (HG.out _).mono ?_
  rintro e w2 ⟨rfl, hb2⟩
  clear c0 c1
  obtain ⟨c0, c1, _, _⟩ := obj_cells (obj_below H1.out hb2)
  have HB2 := Lib.hid (hbt HB1.out hb2)
  clear hb2
  go_wp2_with fail
  refine (HR.out _).mono ?_
  rintro e w3 ⟨rfl, hb3⟩
  have HB3 := Lib.hid (hbt HB2.out hb3)
  clear hb3 c0 c1
  go_wp2
  go_ret
  exact ⟨rfl, HB3.out⟩

theorem prefixGets_walk (st f : Int) (s : ByteArray) (p : Int) (w : World) (_h1 : -9223372036854775808 ≤ st) (_h2 : st ≤ 9223372036854775807) (_h3 : -9223372036854775808 ≤ f) (_h4 : f ≤ 9223372036854775807) (hm : s.size ≤ maxLen) (_h5 : -9223372036854775808 ≤ p) (_h6 : p ≤ 9223372036854775807) :
    Calls Try.prog 4 #[.agg #[.int .i64 st, .int .i64 f], .string s, .int .i64 p] w fun e w' => e = .returned (.bool true) ∧ Below w.heap.size w w' := by
  by_cases hs : 500 < s.size
  · exact pgets_far st f p s w hs hm
  have hs' : s.size ≤ 500 := by omega
  by_cases ha : (st ≠ 1 ∧ st ≠ 2) ∨ (f ≠ 2 ∧ f ≠ 3)
  · exact pgets_near st f p s 0 0 1 w hs' (fun W => pget_w_arg st f p s W ha) (fun W => prefGet_arg st f p s W ha)
  have hst : st = 1 ∨ st = 2 := by omega
  have hf : f = 2 ∨ f = 3 := by omega
  by_cases hp : p < 0 ∨ (s.size : Int) < p
  · exact pgets_near st f p s 0 0 1 w hs' (fun W => pget_w_place st f p s W hst hf hp) (fun W => prefGet_place st f p s W hst hf hp)
  obtain ⟨st, rfl⟩ := Int.eq_ofNat_of_zero_le (show 0 ≤ st by omega)
  obtain ⟨f, rfl⟩ := Int.eq_ofNat_of_zero_le (show 0 ≤ f by omega)
  obtain ⟨p, rfl⟩ := Int.eq_ofNat_of_zero_le (show 0 ≤ p by omega)
  exact pgets_near st f p s _ _ _ w hs' (fun W => pget_any st f p s W (by omega) (by omega) (by omega) (by omega)) (fun W => prefGet_any st f p s W (by omega) (by omega) (by omega) (by omega))

end Go.Proofs.Ytafcdokgjkfikaa
