/-
  What the document's content and Put answer: for every style, spec and text.
-/
import Derived.Test.YtjmpjdefafkldaaDoorCelPut
import Derived.Test.YtjmpjdefafkldaaDoorPackHex
import Derived.Test.YtjmpjdefafkldaaDoorPackBcd
namespace Go.Proofs.YtjmpjdefafkldaaDoor
open Go.RowKit

theorem crcontent_any (st : Nat) (c : Int) (s : ByteArray) (w : World) (hst : st = 1 ∨ st = 2) (hc : isC c = true) (hs : s.size ≤ 999) (hd : cway st c = 1 → allD s.data.toList = true) :
    Calls Tryd.prog 19 #[.int .i64 (st : Int), .int .i64 c, .string s] w fun e w' => e = .returned (.string ⟨(spellL (cway st c) s.data.toList).toArray⟩) ∧ Below w.heap.size w w' := by
  rw [isC_iff] at hc
  rcases cway_le st c with h | h | h
  · rw [h, show (⟨(spellL 0 s.data.toList).toArray⟩ : ByteArray) = s from rfl]
    obtain ⟨g1, g2⟩ := cway_none h
    clear hd h
    rcases hst with rfl | rfl
    · show Calls Tryd.prog 19 #[.int .i64 1, .int .i64 c, .string s] w _
      have t1 : decide (5 ≤ c) = false := by simp; omega
      clear g1 g2 hc
      go_enter Tryd.func19, Tryd.ntmps19
      go_wp2
      go_ret
      exact ⟨rfl, Below.refl _ _⟩
    · show Calls Tryd.prog 19 #[.int .i64 2, .int .i64 c, .string s] w _
      have t1 : (c == 1) = false := by simp; omega
      clear g1 g2 hc
      go_enter Tryd.func19, Tryd.ntmps19
      go_wp2
      go_ret
      exact ⟨rfl, Below.refl _ _⟩
  · have hy : bputB s.data.toList = true := bputB_yes (by rw [list_size]; exact hs) (hd h)
    have HZ := Lib.hid (fun W => brefPut_any s W (by unfold maxLen; omega))
    rw [hy, bputS_yes hy] at HZ
    rw [h, show spellL 1 s.data.toList = packL s.data.toList from rfl]
    obtain ⟨rfl, rfl⟩ := cway_one h
    show Calls Tryd.prog 19 #[.int .i64 2, .int .i64 1, .string s] w _
    clear h hst hd hy hc
    generalize (⟨(packL s.data.toList).toArray⟩ : ByteArray) = x at *
    go_enter Tryd.func19, Tryd.ntmps19
    go_wp2_with fail
    refine (HZ.out _).mono ?_
    rintro e w1 ⟨rfl, hb1⟩
    go_wp2
    go_ret
    exact ⟨rfl, hb1⟩
  · have HZ := Lib.hid (fun W => hrefPut_any s W (by omega))
    rw [h, show spellL 2 s.data.toList = hputL s.data.toList from rfl]
    obtain ⟨rfl, h5⟩ := cway_two h
    show Calls Tryd.prog 19 #[.int .i64 1, .int .i64 c, .string s] w _
    have t1 : decide (5 ≤ c) = true := by simp; omega
    clear h hst hd hc h5
    generalize (⟨(hputL s.data.toList).toArray⟩ : ByteArray) = x at *
    go_enter Tryd.func19, Tryd.ntmps19
    go_wp2_with fail
    refine (HZ.out _).mono ?_
    rintro e w1 ⟨rfl, hb1⟩
    go_wp2
    go_ret
    exact ⟨rfl, hb1⟩

set_option maxHeartbeats 800000 in
theorem crput_arg (st n c f lo hi : Int) (s : ByteArray) (w : World) (h : st ≠ 1 ∧ st ≠ 2) :
    Calls Tryd.prog 10 #[.int .i64 st, .agg #[.int .i64 n, .int .i64 c, .int .i64 f, .int .i64 lo, .int .i64 hi], .string s] w fun e w' => e = .returned (.tuple #[.string ⟨#[]⟩, .int .i64 1]) ∧ Below w.heap.size w w' := by
  have t1 : (st != 1) = true := by simpa using h.1
  have t2 : (st != 2) = true := by simpa using h.2
  clear h
  go_enter Tryd.func10, Tryd.ntmps10
  go_wp2
  go_ret2
  exact ⟨rfl, below_al _ _⟩
set_option maxHeartbeats 800000 in
theorem crput_err (st n c f lo hi : Int) (s : ByteArray) (w : World) (hs : s.size ≤ maxLen) (hst : st = 1 ∨ st = 2) (h : spv n c f lo hi s ≠ 0) :
    Calls Tryd.prog 10 #[.int .i64 st, .agg #[.int .i64 n, .int .i64 c, .int .i64 f, .int .i64 lo, .int .i64 hi], .string s] w fun e w' => e = .returned (.tuple #[.string ⟨#[]⟩, .int .i64 (spv n c f lo hi s)]) ∧ Below w.heap.size w w' := by
  have HV := Lib.hid (fun W => sprefValue_any n c f lo hi s W hs)
  generalize spv n c f lo hi s = x at *
  have t1 : (x != 0) = true := by simpa using h
  clear h hs
  rcases hst with rfl | rfl
  · go_enter Tryd.func10, Tryd.ntmps10
    go_wp2_with fail
    refine (HV.out _).mono ?_
    rintro e w2 ⟨rfl, hb2⟩
    have HB2 := Lib.hid (hbt (below_al _ _) hb2)
    clear hb2
    go_wp2
    go_ret2
    exact ⟨rfl, HB2.out⟩
  · go_enter Tryd.func10, Tryd.ntmps10
    go_wp2_with fail
    refine (HV.out _).mono ?_
    rintro e w2 ⟨rfl, hb2⟩
    have HB2 := Lib.hid (hbt (below_al _ _) hb2)
    clear hb2
    go_wp2
    go_ret2
    exact ⟨rfl, HB2.out⟩
set_option maxHeartbeats 800000 in
theorem crput_fixed1 (n c lo hi : Int) (s x : ByteArray) (w : World) (hxs : x.size ≤ 10000)
    (hv : ∀ W, Calls Tryd.prog 17 #[.agg #[.int .i64 n, .int .i64 c, .int .i64 1, .int .i64 lo, .int .i64 hi], .string s] W fun e w' => e = .returned (.int .i64 0) ∧ Below W.heap.size W w')
    (hx : ∀ W, Calls Tryd.prog 19 #[.int .i64 1, .int .i64 c, .string s] W fun e w' => e = .returned (.string x) ∧ Below W.heap.size W w') :
    Calls Tryd.prog 10 #[.int .i64 1, .agg #[.int .i64 n, .int .i64 c, .int .i64 1, .int .i64 lo, .int .i64 hi], .string s] w fun e w' => e = .returned (.tuple #[.string x, .int .i64 0]) ∧ Below w.heap.size w w' := by
  have HV := Lib.hid hv
  have HX := Lib.hid hx
  have hadd : ∀ W : World, (Op.stringOp .add ⟨#[]⟩ x).run Tryd.prog W = .ok (.string x) W := fun W => by
    have := run_string_add_sum (P := Tryd.prog) W ⟨#[]⟩ x (by have : (⟨#[]⟩ : ByteArray).size = 0 := rfl; omega)
    rw [show (⟨#[]⟩ : ByteArray) ++ x = x from by apply ext_eq; rw [app_list]; simp] at this
    exact this
  clear hv hx hxs
  go_enter Tryd.func10, Tryd.ntmps10
  go_wp2_with fail
  refine (HV.out _).mono ?_
  rintro e w2 ⟨rfl, hb2⟩
  have HB2 := Lib.hid (hbt (below_al _ _) hb2)
  obtain ⟨c0, c1, c2, c3, c4⟩ := obj_cells5 (spec_at hb2)
  clear hb2
  go_wp2_with fail
  refine (HX.out _).mono ?_
  rintro e w3 ⟨rfl, hb3⟩
  have HB3 := Lib.hid (hbt HB2.out hb3)
  clear hb3 c0 c1 c2 c3 c4
  go_wp2
  go_ret2
  exact ⟨rfl, HB3.out⟩
set_option maxHeartbeats 800000 in
theorem crput_fixed2 (n c lo hi : Int) (s x : ByteArray) (w : World) (hxs : x.size ≤ 10000)
    (hv : ∀ W, Calls Tryd.prog 17 #[.agg #[.int .i64 n, .int .i64 c, .int .i64 1, .int .i64 lo, .int .i64 hi], .string s] W fun e w' => e = .returned (.int .i64 0) ∧ Below W.heap.size W w')
    (hx : ∀ W, Calls Tryd.prog 19 #[.int .i64 2, .int .i64 c, .string s] W fun e w' => e = .returned (.string x) ∧ Below W.heap.size W w') :
    Calls Tryd.prog 10 #[.int .i64 2, .agg #[.int .i64 n, .int .i64 c, .int .i64 1, .int .i64 lo, .int .i64 hi], .string s] w fun e w' => e = .returned (.tuple #[.string x, .int .i64 0]) ∧ Below w.heap.size w w' := by
  have HV := Lib.hid hv
  have HX := Lib.hid hx
  have hadd : ∀ W : World, (Op.stringOp .add ⟨#[]⟩ x).run Tryd.prog W = .ok (.string x) W := fun W => by
    have := run_string_add_sum (P := Tryd.prog) W ⟨#[]⟩ x (by have : (⟨#[]⟩ : ByteArray).size = 0 := rfl; omega)
    rw [show (⟨#[]⟩ : ByteArray) ++ x = x from by apply ext_eq; rw [app_list]; simp] at this
    exact this
  clear hv hx hxs
  go_enter Tryd.func10, Tryd.ntmps10
  go_wp2_with fail
  refine (HV.out _).mono ?_
  rintro e w2 ⟨rfl, hb2⟩
  have HB2 := Lib.hid (hbt (below_al _ _) hb2)
  obtain ⟨c0, c1, c2, c3, c4⟩ := obj_cells5 (spec_at hb2)
  clear hb2
  go_wp2_with fail
  refine (HX.out _).mono ?_
  rintro e w3 ⟨rfl, hb3⟩
  have HB3 := Lib.hid (hbt HB2.out hb3)
  clear hb3 c0 c1 c2 c3 c4
  go_wp2
  go_ret2
  exact ⟨rfl, HB3.out⟩
set_option maxHeartbeats 800000 in
theorem crput_var1 (n c f lo hi : Int) (s x y : ByteArray) (w : World) (hf : (f != 1) = true) (hxy : x.size + y.size ≤ 10000)
    (hv : ∀ W, Calls Tryd.prog 17 #[.agg #[.int .i64 n, .int .i64 c, .int .i64 f, .int .i64 lo, .int .i64 hi], .string s] W fun e w' => e = .returned (.int .i64 0) ∧ Below W.heap.size W w')
    (hp : ∀ W, Calls Tryd.prog 18 #[.int .i64 1, .int .i64 f, .int .i64 (s.size : Int)] W fun e w' => e = .returned (.tuple #[.string y, .int .i64 0]) ∧ Below W.heap.size W w')
    (hx : ∀ W, Calls Tryd.prog 19 #[.int .i64 1, .int .i64 c, .string s] W fun e w' => e = .returned (.string x) ∧ Below W.heap.size W w') :
    Calls Tryd.prog 10 #[.int .i64 1, .agg #[.int .i64 n, .int .i64 c, .int .i64 f, .int .i64 lo, .int .i64 hi], .string s] w fun e w' => e = .returned (.tuple #[.string (y ++ x), .int .i64 0]) ∧ Below w.heap.size w w' := by
  have HV := Lib.hid hv
  have HX := Lib.hid hx
  have HP := Lib.hid hp
  have hadd : ∀ W : World, (Op.stringOp .add y x).run Tryd.prog W = .ok (.string (y ++ x)) W := fun W => run_string_add_sum W y x (by omega)
  clear hv hx hp hxy
  go_enter Tryd.func10, Tryd.ntmps10
  go_wp2_with fail
  refine (HV.out _).mono ?_
  rintro e w2 ⟨rfl, hb2⟩
  have HB2 := Lib.hid (hbt (below_al _ _) hb2)
  have HO2 := Lib.hid (spec_at hb2)
  obtain ⟨c0, c1, c2, c3, c4⟩ := obj_cells5 HO2.out
  clear hb2
  go_wp2_with fail
  refine (HP.out _).mono ?_
  rintro e w3 ⟨rfl, hb3⟩
  have HB3 := Lib.hid (hbt HB2.out hb3)
  clear c0 c1 c2 c3 c4
  obtain ⟨c0, c1, c2, c3, c4⟩ := obj_cells5 (obj_below HO2.out hb3)
  clear hb3
  go_wp2_with fail
  refine (HX.out _).mono ?_
  rintro e w4 ⟨rfl, hb4⟩
  have HB4 := Lib.hid (hbt HB3.out hb4)
  clear hb4 c0 c1 c2 c3 c4
  go_wp2
  go_ret2
  exact ⟨rfl, HB4.out⟩
set_option maxHeartbeats 800000 in
theorem crput_var2 (n c f lo hi : Int) (s x y : ByteArray) (w : World) (hf : (f != 1) = true) (hxy : x.size + y.size ≤ 10000)
    (hv : ∀ W, Calls Tryd.prog 17 #[.agg #[.int .i64 n, .int .i64 c, .int .i64 f, .int .i64 lo, .int .i64 hi], .string s] W fun e w' => e = .returned (.int .i64 0) ∧ Below W.heap.size W w')
    (hp : ∀ W, Calls Tryd.prog 18 #[.int .i64 2, .int .i64 f, .int .i64 (s.size : Int)] W fun e w' => e = .returned (.tuple #[.string y, .int .i64 0]) ∧ Below W.heap.size W w')
    (hx : ∀ W, Calls Tryd.prog 19 #[.int .i64 2, .int .i64 c, .string s] W fun e w' => e = .returned (.string x) ∧ Below W.heap.size W w') :
    Calls Tryd.prog 10 #[.int .i64 2, .agg #[.int .i64 n, .int .i64 c, .int .i64 f, .int .i64 lo, .int .i64 hi], .string s] w fun e w' => e = .returned (.tuple #[.string (y ++ x), .int .i64 0]) ∧ Below w.heap.size w w' := by
  have HV := Lib.hid hv
  have HX := Lib.hid hx
  have HP := Lib.hid hp
  have hadd : ∀ W : World, (Op.stringOp .add y x).run Tryd.prog W = .ok (.string (y ++ x)) W := fun W => run_string_add_sum W y x (by omega)
  clear hv hx hp hxy
  go_enter Tryd.func10, Tryd.ntmps10
  go_wp2_with fail
  refine (HV.out _).mono ?_
  rintro e w2 ⟨rfl, hb2⟩
  have HB2 := Lib.hid (hbt (below_al _ _) hb2)
  have HO2 := Lib.hid (spec_at hb2)
  obtain ⟨c0, c1, c2, c3, c4⟩ := obj_cells5 HO2.out
  clear hb2
  go_wp2_with fail
  refine (HP.out _).mono ?_
  rintro e w3 ⟨rfl, hb3⟩
  have HB3 := Lib.hid (hbt HB2.out hb3)
  clear c0 c1 c2 c3 c4
  obtain ⟨c0, c1, c2, c3, c4⟩ := obj_cells5 (obj_below HO2.out hb3)
  clear hb3
  go_wp2_with fail
  refine (HX.out _).mono ?_
  rintro e w4 ⟨rfl, hb4⟩
  have HB4 := Lib.hid (hbt HB3.out hb4)
  clear hb4 c0 c1 c2 c3 c4
  go_wp2
  go_ret2
  exact ⟨rfl, HB4.out⟩

/-- What the document's Put answers, of a value. -/
theorem crput_ok (st : Nat) (n c f lo hi : Int) (s : ByteArray) (w : World) (hst : st = 1 ∨ st = 2) (h : spv n c f lo hi s = 0) :
    Calls Tryd.prog 10 #[.int .i64 (st : Int), .agg #[.int .i64 n, .int .i64 c, .int .i64 f, .int .i64 lo, .int .i64 hi], .string s] w fun e w' => e = .returned (.tuple #[.string ⟨(cputL st c f s.data.toList).toArray⟩, .int .i64 0]) ∧ Below w.heap.size w w' := by
  obtain ⟨g1, g2, g3, _⟩ := spv_in h
  obtain ⟨hc, k1, k2, k3⟩ := spk_in g1
  have hs : s.size ≤ 999 := by omega
  have hv := fun W => sprefValue_any n c f lo hi s W (by unfold maxLen; omega)
  rw [h] at hv
  have hx := fun W => crcontent_any st c s W hst hc hs (fun hk => by
    obtain ⟨_, rfl⟩ := cway_one hk
    exact fst_digits g3)
  have e3 := csz_le (cway st c) s.size
  by_cases hf : f = 1
  · subst hf
    rw [cputL_fixed]
    rcases hst with rfl | rfl
    · exact crput_fixed1 n c lo hi s _ w (by have i1 := mk_size (spellL (cway 1 c) s.data.toList); rw [i1, spellL_length, list_size]; omega) hv hx
    · exact crput_fixed2 n c lo hi s _ w (by have i1 := mk_size (spellL (cway 2 c) s.data.toList); rw [i1, spellL_length, list_size]; omega) hv hx
  · obtain ⟨f1, f2⟩ := spk_most g1 hf s.size (by omega)
    rw [cputL_var hf, list_size]
    have e1 := pputL_length (st := st) s.size f1
    have e2 := (psz_le (st := st) f1).2
    have hf1 : (f != 1) = true := by simpa using hf
    have hf2 : f = 2 ∨ f = 3 := by omega
    have hp : ∀ W, Calls Tryd.prog 18 #[.int .i64 (st : Int), .int .i64 f, .int .i64 (s.size : Int)] W fun e w' => e = .returned (.tuple #[.string ⟨(pputL st f.toNat s.size).toArray⟩, .int .i64 0]) ∧ Below W.heap.size W w' := fun W => by
      rcases hf2 with rfl | rfl
      · exact prefPut_ok st 2 s.size W hst (.inl rfl) f2
      · exact prefPut_ok st 3 s.size W hst (.inr rfl) f2
    have hxy : (⟨(spellL (cway st c) s.data.toList).toArray⟩ : ByteArray).size + (⟨(pputL st f.toNat s.size).toArray⟩ : ByteArray).size ≤ 10000 := by have i1 := mk_size (spellL (cway st c) s.data.toList); have i2 := mk_size (pputL st f.toNat s.size); have i3 := spellL_length (cway st c) s.data.toList; rw [list_size] at i3; rw [i1, i2, i3, e1]; omega
    rcases hst with rfl | rfl
    · exact crput_var1 n c f lo hi s _ _ w hf1 hxy hv hp hx
    · exact crput_var2 n c f lo hi s _ _ w hf1 hxy hv hp hx

end Go.Proofs.YtjmpjdefafkldaaDoor
