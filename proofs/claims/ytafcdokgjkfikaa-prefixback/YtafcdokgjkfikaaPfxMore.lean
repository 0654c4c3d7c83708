/-
  The laws PrefixBack and PrefixOne, walked: each returns true, for every input, in every world.
-/
import Derived.Test.YtafcdokgjkfikaaPfxAwake
import Derived.Test.YtafcdokgjkfikaaObjs
namespace Go.Proofs.Ytafcdokgjkfikaa
open Go.RowKit

set_option maxHeartbeats 800000 in
theorem pback_no (st f n : Int) (more : ByteArray) (w : World) (x : ByteArray) (k : Nat) (hk : k ≠ 0)
    (hp : ∀ W, Calls Try.prog 8 #[.int .i64 st, .int .i64 f, .int .i64 n] W fun e w' => e = .returned (.tuple #[.string x, .int .i64 (k : Int)]) ∧ Below W.heap.size W w') :
    Calls Try.prog 5 #[.agg #[.int .i64 st, .int .i64 f], .int .i64 n, .string more] w fun e w' => e = .returned (.bool true) ∧ Below w.heap.size w w' := by
  have HA := Lib.hid pwake_any
  have HP := Lib.hid hp
  have h4 : ((k : Int) != 0) = true := by simp [hk]
  clear hp hk
  go_enter Try.func5, Try.ntmps5
  go_wp2_with fail
  refine (HP.out _).mono ?_
  rintro e w1 ⟨rfl, hb1⟩
  have HB1 := Lib.hid (hbt (below_al _ _) hb1)
  clear hb1
  go_wp2_with fail
  refine (HA.out _).mono ?_
  rintro e w2 ⟨rfl, hb2⟩
  have HB2 := Lib.hid (hbt HB1.out hb2)
  clear hb2
  go_wp2_with fail
  refine (HA.out _).mono ?_
  rintro e w3 ⟨rfl, hb3⟩
  have HB3 := Lib.hid (hbt HB2.out hb3)
  clear hb3
  go_wp2
  go_ret
  exact ⟨rfl, HB3.out⟩

set_option maxHeartbeats 800000 in
theorem pback_far (st f n : Int) (more : ByteArray) (w : World) (x : ByteArray) (hm : more.size ≤ maxLen) (h : 100 < more.size)
    (hp : ∀ W, Calls Try.prog 8 #[.int .i64 st, .int .i64 f, .int .i64 n] W fun e w' => e = .returned (.tuple #[.string x, .int .i64 0]) ∧ Below W.heap.size W w') :
    Calls Try.prog 5 #[.agg #[.int .i64 st, .int .i64 f], .int .i64 n, .string more] w fun e w' => e = .returned (.bool true) ∧ Below w.heap.size w w' := by
  have HA := Lib.hid pwake_any
  have HP := Lib.hid hp
  have hd : decide ((100 : Int) < (more.size : Int)) = true := by simp; omega
  have HM := Lib.hid hm
  clear hp hm h
  go_enter Try.func5, Try.ntmps5
  go_wp2_with fail
  refine (HP.out _).mono ?_
  rintro e w1 ⟨rfl, hb1⟩
  have HB1 := Lib.hid (hbt (below_al _ _) hb1)
  clear hb1
  go_wp2_with fail
  refine (HA.out _).mono ?_
  rintro e w2 ⟨rfl, hb2⟩
  have HB2 := Lib.hid (hbt HB1.out hb2)
  clear hb2
  go_wp2_with fail
  refine (HA.out _).mono ?_
  rintro e w3 ⟨rfl, hb3⟩
  have HB3 := Lib.hid (hbt HB2.out hb3)
  clear hb3
  go_wp2
  go_ret
  exact ⟨rfl, HB3.out⟩

set_option maxHeartbeats 1600000 in
theorem pback_ok (st f n : Int) (more : ByteArray) (w : World) (x : ByteArray) (h : more.size ≤ 100) (hx : x.size ≤ 3)
    (hp : ∀ W, Calls Try.prog 8 #[.int .i64 st, .int .i64 f, .int .i64 n] W fun e w' => e = .returned (.tuple #[.string x, .int .i64 0]) ∧ Below W.heap.size W w')
    (hg : ∀ W, Calls Try.prog 11 #[.int .i64 st, .int .i64 f, .string (more ++ x ++ more), .int .i64 (more.size : Int)] W fun e w' => e = .returned (.tuple #[.int .i64 n, .int .i64 ((more.size + x.size : Nat) : Int), .int .i64 0]) ∧ Below W.heap.size W w') :
    Calls Try.prog 5 #[.agg #[.int .i64 st, .int .i64 f], .int .i64 n, .string more] w fun e w' => e = .returned (.bool true) ∧ Below w.heap.size w w' := by
  have HA := Lib.hid pwake_any
  have HP := Lib.hid hp
  have HG := Lib.hid hg
  have hd : decide ((100 : Int) < (more.size : Int)) = false := by simp; omega
  have hadd : ∀ W : World, (Op.stringOp .add more x).run Try.prog W = .ok (.string (more ++ x)) W := fun W => run_string_add_sum W more x (by omega)
  have hadd2 : ∀ W : World, (Op.stringOp .add (more ++ x) more).run Try.prog W = .ok (.string (more ++ x ++ more)) W := fun W => run_string_add_sum W (more ++ x) more (by rw [ByteArray.size_append]; omega)
  clear hp hg
  go_enter Try.func5, Try.ntmps5
  go_wp2_with fail
  refine (HP.out _).mono ?_
  rintro e w1 ⟨rfl, hb1⟩
  have h1 := obj_below (heap_alloc_new w (.cells #[.int .i64 st, .int .i64 f] 29)) hb1
  have H1 := Lib.hid h1
  have HB1 := Lib.hid (hbt (below_al _ _) hb1)
  clear hb1 h1
  go_wp2_with fail
  refine (HA.out _).mono ?_
  rintro e w2 ⟨rfl, hb2⟩
  obtain ⟨c0, c1, _, _⟩ := obj_cells (obj_below H1.out hb2)
  have HB2 := Lib.hid (hbt HB1.out hb2)
  clear hb2
  go_wp2_with fail
  refine (HG.out _).mono ?_
  rintro e w3 ⟨rfl, hb3⟩
  have HB3 := Lib.hid (hbt HB2.out hb3)
  clear hb3 c0 c1
  go_wp2
  go_ret
  exact ⟨by simp, HB3.out⟩

theorem prefixBack_walk (st f n : Int) (more : ByteArray) (w : World) (_h1 : -9223372036854775808 ≤ st) (_h2 : st ≤ 9223372036854775807) (_h3 : -9223372036854775808 ≤ f) (_h4 : f ≤ 9223372036854775807) (_h5 : -9223372036854775808 ≤ n) (h6 : n ≤ 9223372036854775807) (hm : more.size ≤ maxLen) :
    Calls Try.prog 5 #[.agg #[.int .i64 st, .int .i64 f], .int .i64 n, .string more] w fun e w' => e = .returned (.bool true) ∧ Below w.heap.size w w' := by
  by_cases ha : (st ≠ 1 ∧ st ≠ 2) ∨ (f ≠ 2 ∧ f ≠ 3)
  · exact pback_no st f n more w _ 1 (by decide) (fun W => pput_arg st f n W ha)
  have hst : st = 1 ∨ st = 2 := by omega
  have hf : f = 2 ∨ f = 3 := by omega
  by_cases hn : n < 0 ∨ (10 ^ f.toNat : Int) ≤ n
  · exact pback_no st f n more w _ 5 (by decide) (fun W => pput_range st f n W hst hf h6 hn)
  obtain ⟨hn0, hn1⟩ := not_or.1 hn
  obtain ⟨st, rfl⟩ := Int.eq_ofNat_of_zero_le (show 0 ≤ st by omega)
  obtain ⟨f, rfl⟩ := Int.eq_ofNat_of_zero_le (show 0 ≤ f by omega)
  obtain ⟨n, rfl⟩ := Int.eq_ofNat_of_zero_le (show 0 ≤ n by omega)
  have hf' : f = 2 ∨ f = 3 := by omega
  have hn2 : n < 10 ^ f := by
    rcases hf' with rfl | rfl
    · simp at hn1; omega
    · simp at hn1; omega
  have hp := fun W => pput_ok st f n W (by omega) hf' hn2
  by_cases h : 100 < more.size
  · exact pback_far st f n more w _ hm h hp
  have hx : (⟨(pputL st f n).toArray⟩ : ByteArray).size = psz st f := by show (pputL st f n).toArray.size = _; rw [List.size_toArray, pputL_length n hf']
  have hz := (psz_le (st := st) hf').2
  refine pback_ok st f n more w _ (by omega) (by omega) hp (fun W => ?_)
  have hg := pget_any st f more.size (more ++ ⟨(pputL st f n).toArray⟩ ++ more) W (by omega) hf' (by rw [ByteArray.size_append, ByteArray.size_append]; omega) (by rw [ByteArray.size_append, ByteArray.size_append]; omega)
  have e1 : (more ++ ⟨(pputL st f n).toArray⟩ ++ more : ByteArray).data.toList = more.data.toList ++ pputL st f n ++ more.data.toList := by simp
  have e2 := pget_back (st := st) more.data.toList more.data.toList hf' hn2
  rw [show more.data.toList.length = more.size by simp] at e2
  rw [e1, e2] at hg
  rw [hx]
  exact hg

set_option maxHeartbeats 800000 in
theorem pone_far (st f : Int) (s : ByteArray) (w : World) (hs : 500 < s.size) (hm : s.size ≤ maxLen) :
    Calls Try.prog 6 #[.agg #[.int .i64 st, .int .i64 f], .string s] w fun e w' => e = .returned (.bool true) ∧ Below w.heap.size w w' := by
  have HA := Lib.hid pwake_any
  have hd : decide ((500 : Int) < (s.size : Int)) = true := by simp; omega
  have HM := Lib.hid hm
  clear hm hs
  go_enter Try.func6, Try.ntmps6
  go_wp2_with fail
  refine (HA.out _).mono ?_
  rintro e w1 ⟨rfl, hb1⟩
  go_wp2_with fail
  refine (HA.out _).mono ?_
  rintro e w2 ⟨rfl, hb2⟩
  have HB2 := Lib.hid (hbt (hbt (below_al _ _) hb1) hb2)
  clear hb1 hb2
  go_wp2
  go_ret
  exact ⟨rfl, HB2.out⟩

set_option maxHeartbeats 800000 in
theorem pone_err (st f : Int) (s : ByteArray) (k : Nat) (w : World) (hs : s.size ≤ 500) (hk : k ≠ 0)
    (hg : ∀ W, Calls Try.prog 11 #[.int .i64 st, .int .i64 f, .string s, .int .i64 0] W fun e w' => e = .returned (.tuple #[.int .i64 0, .int .i64 0, .int .i64 (k : Int)]) ∧ Below W.heap.size W w') :
    Calls Try.prog 6 #[.agg #[.int .i64 st, .int .i64 f], .string s] w fun e w' => e = .returned (.bool true) ∧ Below w.heap.size w w' := by
  have HA := Lib.hid pwake_any
  have HG := Lib.hid hg
  have hd : decide ((500 : Int) < (s.size : Int)) = false := by simp; omega
  have h4 : ((k : Int) != 0) = true := by simp [hk]
  clear hg hk
  go_enter Try.func6, Try.ntmps6
  go_wp2_with fail
  refine (HA.out _).mono ?_
  rintro e w1 ⟨rfl, hb1⟩
  obtain ⟨c0, c1, _, _⟩ := obj_cells (obj_below (heap_alloc_new w (.cells #[.int .i64 st, .int .i64 f] 29)) hb1)
  have HB1 := Lib.hid (hbt (below_al _ _) hb1)
  clear hb1
  go_wp2_with fail
  refine (HG.out _).mono ?_
  rintro e w2 ⟨rfl, hb2⟩
  have HB2 := Lib.hid (hbt HB1.out hb2)
  clear hb2 c0 c1
  go_wp2
  go_ret
  exact ⟨rfl, HB2.out⟩

set_option maxHeartbeats 1600000 in
theorem pone_ok (st f : Int) (s : ByteArray) (n m k : Nat) (w : World) (hs : s.size ≤ 500) (hm : m ≤ s.size) (hn : n ≤ k)
    (hg : ∀ W, Calls Try.prog 11 #[.int .i64 st, .int .i64 f, .string s, .int .i64 0] W fun e w' => e = .returned (.tuple #[.int .i64 (n : Int), .int .i64 (m : Int), .int .i64 0]) ∧ Below W.heap.size W w')
    (hp : ∀ W, Calls Try.prog 8 #[.int .i64 st, .int .i64 f, .int .i64 (n : Int)] W fun e w' => e = .returned (.tuple #[.string (s.extract 0 m), .int .i64 0]) ∧ Below W.heap.size W w')
    (ho : ∀ W, Calls Try.prog 13 #[.int .i64 f] W fun e w' => e = .returned (.int .i64 (k : Int)) ∧ W = w') :
    Calls Try.prog 6 #[.agg #[.int .i64 st, .int .i64 f], .string s] w fun e w' => e = .returned (.bool true) ∧ Below w.heap.size w w' := by
  have HA := Lib.hid pwake_any
  have HG := Lib.hid hg
  have HP := Lib.hid hp
  have HO := Lib.hid ho
  have hd : decide ((500 : Int) < (s.size : Int)) = false := by simp; omega
  have hm' : (m : Int) ≤ (s.size : Int) := by omega
  clear hg hp ho
  go_enter Try.func6, Try.ntmps6
  go_wp2_with fail
  refine (HA.out _).mono ?_
  rintro e w1 ⟨rfl, hb1⟩
  have h1 := obj_below (heap_alloc_new w (.cells #[.int .i64 st, .int .i64 f] 29)) hb1
  obtain ⟨c0, c1, _, _⟩ := obj_cells h1
  have H1 := Lib.hid h1
  have HB1 := Lib.hid (hbt (below_al _ _) hb1)
  clear hb1 h1
  go_wp2_with fail
  refine (HG.out _).mono ?_
  rintro e w2 ⟨rfl, hb2⟩
  clear c0 c1
  have h2 := obj_below H1.out hb2
  obtain ⟨c0, c1, _, _⟩ := obj_cells h2
  have H2 := Lib.hid h2
  have HB2 := Lib.hid (hbt HB1.out hb2)
  clear hb2 h2
  go_wp2_with fail
  refine (HP.out _).mono ?_
  rintro e w3 ⟨rfl, hb3⟩
  clear c0 c1
  obtain ⟨c0, c1, _, _⟩ := obj_cells (obj_below H2.out hb3)
  have HB3 := Lib.hid (hbt HB2.out hb3)
  clear hb3
  go_wp2_with fail
  refine (HO.out _).mono ?_
  rintro e w4 ⟨rfl, rfl⟩
  go_wp2
  go_ret
  exact ⟨by simp, HB3.out⟩

theorem prefixOne_walk (st f : Int) (s : ByteArray) (w : World) (_h1 : -9223372036854775808 ≤ st) (_h2 : st ≤ 9223372036854775807) (_h3 : -9223372036854775808 ≤ f) (_h4 : f ≤ 9223372036854775807) (hm : s.size ≤ maxLen) :
    Calls Try.prog 6 #[.agg #[.int .i64 st, .int .i64 f], .string s] w fun e w' => e = .returned (.bool true) ∧ Below w.heap.size w w' := by
  by_cases hs : 500 < s.size
  · exact pone_far st f s w hs hm
  have hs' : s.size ≤ 500 := by omega
  by_cases ha : (st ≠ 1 ∧ st ≠ 2) ∨ (f ≠ 2 ∧ f ≠ 3)
  · exact pone_err st f s 1 w hs' (by decide) (fun W => pget_w_arg st f 0 s W ha)
  obtain ⟨st, rfl⟩ := Int.eq_ofNat_of_zero_le (show 0 ≤ st by omega)
  obtain ⟨f, rfl⟩ := Int.eq_ofNat_of_zero_le (show 0 ≤ f by omega)
  have hf' : f = 2 ∨ f = 3 := by omega
  have hg := fun W => pget_any st f 0 s W (by omega) hf' (by omega) (by omega)
  unfold pgetV at hg
  have hl : s.data.toList.length = s.size := by simp
  by_cases he : (pget st f s.data.toList 0).2.2 = 0
  · obtain ⟨g1, g2, g3, g4⟩ := pget_one hf' he
    rw [he, g2] at hg
    refine pone_ok st f s _ _ (10 ^ f - 1) w hs' (by omega) (by omega) hg (fun W => ?_) (fun W => most_yes f hf' W)
    have := pput_ok st f _ W (by omega) hf' g1
    rw [g4] at this
    rw [show s.extract 0 (psz st f) = ⟨(s.data.toList.take (psz st f)).toArray⟩ from by
      rw [ByteArray.ext_iff]
      apply Array.toList_inj.1
      simp]
    exact this
  · obtain ⟨e1, e2⟩ := pget_err he
    rw [e1, e2] at hg
    exact pone_err st f s _ w hs' he hg

end Go.Proofs.Ytafcdokgjkfikaa
