/-
  What Put answers: for every style, spec and text.
-/
import Derived.Test.YtjmpjdefafkldaaDoorCelSmall
import Derived.Test.YtjmpjdefafkldaaDoorPackPfx
namespace Go.Proofs.YtjmpjdefafkldaaDoor
open Go.RowKit

set_option maxHeartbeats 800000 in
theorem cput_arg (st n c f lo hi : Int) (s : ByteArray) (w : World) (h : st ≠ 1 ∧ st ≠ 2) :
    Calls Tryd.prog 9 #[.int .i64 st, .agg #[.int .i64 n, .int .i64 c, .int .i64 f, .int .i64 lo, .int .i64 hi], .string s] w fun e w' => e = .returned (.tuple #[.string ⟨#[]⟩, .int .i64 1]) ∧ Below w.heap.size w w' := by
  have HK := Lib.hid (cknown_no st h)
  clear h
  go_enter Tryd.func9, Tryd.ntmps9
  go_wp2_with fail
  refine (HK.out _).mono ?_
  rintro e w1 ⟨rfl, rfl⟩
  go_wp2
  go_ret2
  exact ⟨rfl, below_al _ _⟩
set_option maxHeartbeats 800000 in
theorem cput_err (st n c f lo hi : Int) (s : ByteArray) (w : World) (hw : Kinds w) (hs : s.size ≤ maxLen) (hst : st = 1 ∨ st = 2) (h : spv n c f lo hi s ≠ 0) :
    Calls Tryd.prog 9 #[.int .i64 st, .agg #[.int .i64 n, .int .i64 c, .int .i64 f, .int .i64 lo, .int .i64 hi], .string s] w fun e w' => e = .returned (.tuple #[.string ⟨#[]⟩, .int .i64 (spv n c f lo hi s)]) ∧ Below w.heap.size w w' := by
  have HK := Lib.hid (cknown_yes st hst)
  have HV := Lib.hid (fun W hW => spvalue_any n c f lo hi s W hW hs)
  have HW := Lib.hid hw
  generalize spv n c f lo hi s = x at *
  have t1 : (x != 0) = true := by simpa using h
  clear h hw hst hs
  go_enter Tryd.func9, Tryd.ntmps9
  go_wp2_with fail
  refine (HK.out _).mono ?_
  rintro e w1 ⟨rfl, rfl⟩
  go_wp2_with fail
  refine (HV.out _ (HW.out.below (below_al _ _))).mono ?_
  rintro e w2 ⟨rfl, hb2⟩
  have HB2 := Lib.hid (hbt (below_al _ _) hb2)
  clear hb2
  go_wp2
  go_ret2
  exact ⟨rfl, HB2.out⟩
set_option maxHeartbeats 800000 in
theorem cput_fixed (st n c lo hi : Int) (s x : ByteArray) (w : World) (hw : Kinds w) (hst : st = 1 ∨ st = 2)
    (hv : ∀ W, Kinds W → Calls Tryd.prog 14 #[.agg #[.int .i64 n, .int .i64 c, .int .i64 1, .int .i64 lo, .int .i64 hi], .string s] W fun e w' => e = .returned (.int .i64 0) ∧ Below W.heap.size W w')
    (hx : ∀ W, Calls Tryd.prog 15 #[.int .i64 st, .int .i64 c, .string s] W fun e w' => e = .returned (.string x) ∧ Below W.heap.size W w') :
    Calls Tryd.prog 9 #[.int .i64 st, .agg #[.int .i64 n, .int .i64 c, .int .i64 1, .int .i64 lo, .int .i64 hi], .string s] w fun e w' => e = .returned (.tuple #[.string x, .int .i64 0]) ∧ Below w.heap.size w w' := by
  have HK := Lib.hid (cknown_yes st hst)
  have HV := Lib.hid hv
  have HX := Lib.hid hx
  have HW := Lib.hid hw
  clear hw hv hx hst
  go_enter Tryd.func9, Tryd.ntmps9
  go_wp2_with fail
  refine (HK.out _).mono ?_
  rintro e w1 ⟨rfl, rfl⟩
  go_wp2_with fail
  refine (HV.out _ (HW.out.below (below_al _ _))).mono ?_
  rintro e w2 ⟨rfl, hb2⟩
  have HB2 := Lib.hid (hbt (below_al _ _) hb2)
  obtain ⟨c0, c1, c2, c3, c4⟩ := obj_cells5 (spec_at hb2)
  clear hb2
  go_wp2_with fail
  refine (HX.out _).mono ?_
  rintro e w3 ⟨rfl, hb3⟩
  have HB3 := Lib.hid (hbt HB2.out hb3)
  clear hb3 c0 c1 c2 c3 c4
  go_wp2
  go_ret2
  exact ⟨rfl, HB3.out⟩
set_option maxHeartbeats 800000 in
theorem cput_var (st n c f lo hi : Int) (s x y : ByteArray) (w : World) (hw : Kinds w) (hst : st = 1 ∨ st = 2) (hf : (f == 1) = false) (hxy : x.size + y.size ≤ 10000)
    (hv : ∀ W, Kinds W → Calls Tryd.prog 14 #[.agg #[.int .i64 n, .int .i64 c, .int .i64 f, .int .i64 lo, .int .i64 hi], .string s] W fun e w' => e = .returned (.int .i64 0) ∧ Below W.heap.size W w')
    (hp : ∀ W, Calls Tryd.prog 16 #[.int .i64 st, .int .i64 f, .int .i64 (s.size : Int)] W fun e w' => e = .returned (.tuple #[.string y, .int .i64 0]) ∧ Below W.heap.size W w')
    (hx : ∀ W, Calls Tryd.prog 15 #[.int .i64 st, .int .i64 c, .string s] W fun e w' => e = .returned (.string x) ∧ Below W.heap.size W w') :
    Calls Tryd.prog 9 #[.int .i64 st, .agg #[.int .i64 n, .int .i64 c, .int .i64 f, .int .i64 lo, .int .i64 hi], .string s] w fun e w' => e = .returned (.tuple #[.string (y ++ x), .int .i64 0]) ∧ Below w.heap.size w w' := by
  have HK := Lib.hid (cknown_yes st hst)
  have HV := Lib.hid hv
  have HX := Lib.hid hx
  have HP := Lib.hid hp
  have HW := Lib.hid hw
  have hadd : ∀ W : World, (Op.stringOp .add y x).run Tryd.prog W = .ok (.string (y ++ x)) W := fun W => run_string_add_sum W y x (by omega)
  clear hw hv hx hp hst hxy
  go_enter Tryd.func9, Tryd.ntmps9
  go_wp2_with fail
  refine (HK.out _).mono ?_
  rintro e w1 ⟨rfl, rfl⟩
  go_wp2_with fail
  refine (HV.out _ (HW.out.below (below_al _ _))).mono ?_
  rintro e w2 ⟨rfl, hb2⟩
  have HB2 := Lib.hid (hbt (below_al _ _) hb2)
  have HO2 := Lib.hid (spec_at hb2)
  obtain ⟨c0, c1, c2, c3, c4⟩ := obj_cells5 HO2.out
  clear hb2
  go_wp2_with fail
  refine (HP.out _).mono ?_
  rintro e w3 ⟨rfl, hb3⟩
  have HB3 := Lib.hid (hbt HB2.out hb3)
  clear c0 c1 c2 c3 c4
  obtain ⟨c0, c1, c2, c3, c4⟩ := obj_cells5 (obj_below HO2.out hb3)
  clear hb3
  go_wp2_with fail
  refine (HX.out _).mono ?_
  rintro e w4 ⟨rfl, hb4⟩
  have HB4 := Lib.hid (hbt HB3.out hb4)
  clear hb4 c0 c1 c2 c3 c4
  go_wp2
  go_ret2
  exact ⟨rfl, HB4.out⟩

theorem pput_int {st m : Nat} {f : Int} (W : World) (hst : st = 1 ∨ st = 2) (hf : f.toNat = 2 ∨ f.toNat = 3) (hm : m < 10 ^ f.toNat) :
    Calls Tryd.prog 16 #[.int .i64 (st : Int), .int .i64 f, .int .i64 (m : Int)] W fun e w' => e = .returned (.tuple #[.string ⟨(pputL st f.toNat m).toArray⟩, .int .i64 0]) ∧ Below W.heap.size W w' := by
  have hf2 : f = 2 ∨ f = 3 := by omega
  rcases hf2 with rfl | rfl
  · exact pput_ok st 2 m W hst (.inl rfl) hm
  · exact pput_ok st 3 m W hst (.inr rfl) hm
theorem cputL_fixed (st : Nat) (c : Int) (l : List UInt8) : cputL st c 1 l = spellL (cway st c) l := by unfold cputL; rw [if_pos rfl, List.nil_append]
theorem cputL_var {st : Nat} {c f : Int} {l : List UInt8} (hf : f ≠ 1) : (⟨(cputL st c f l).toArray⟩ : ByteArray) = ⟨(pputL st f.toNat l.length).toArray⟩ ++ ⟨(spellL (cway st c) l).toArray⟩ := by
  unfold cputL
  rw [if_neg hf]
  apply ext_eq
  rw [app_list, mk_list, mk_list, mk_list]

/-- What Put answers, of a value. -/
theorem cput_ok (st : Nat) (n c f lo hi : Int) (s : ByteArray) (w : World) (hw : Kinds w) (hst : st = 1 ∨ st = 2) (h : spv n c f lo hi s = 0) :
    Calls Tryd.prog 9 #[.int .i64 (st : Int), .agg #[.int .i64 n, .int .i64 c, .int .i64 f, .int .i64 lo, .int .i64 hi], .string s] w fun e w' => e = .returned (.tuple #[.string ⟨(cputL st c f s.data.toList).toArray⟩, .int .i64 0]) ∧ Below w.heap.size w w' := by
  obtain ⟨g1, g2, g3, _⟩ := spv_in h
  obtain ⟨_, k1, k2, k3⟩ := spk_in g1
  have hs : s.size ≤ 999 := by omega
  have hv := fun W hW => spvalue_any n c f lo hi s W hW (by unfold maxLen; omega)
  rw [h] at hv
  have hx := fun W => cspell_any st c s W hst hs (fun hk => by
    obtain ⟨_, rfl⟩ := cway_one hk
    exact fst_digits g3)
  by_cases hf : f = 1
  · subst hf
    rw [cputL_fixed]
    exact cput_fixed (st : Int) n c lo hi s _ w hw (by omega) hv hx
  · obtain ⟨f1, f2⟩ := spk_most g1 hf s.size (by omega)
    rw [cputL_var hf, list_size]
    have e1 := pputL_length (st := st) s.size f1
    have e2 := (psz_le (st := st) f1).2
    have e3 := csz_le (cway st c) s.size
    exact cput_var (st : Int) n c f lo hi s _ _ w hw (by omega) (by simpa using hf) (by have i1 := mk_size (spellL (cway st c) s.data.toList); have i2 := mk_size (pputL st f.toNat s.size); have i3 := spellL_length (cway st c) s.data.toList; rw [list_size] at i3; rw [i1, i2, i3, e1]; omega) hv (fun W => pput_int W hst f1 f2) hx

end Go.Proofs.YtjmpjdefafkldaaDoor
