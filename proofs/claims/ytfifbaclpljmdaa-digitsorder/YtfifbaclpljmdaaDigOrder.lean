/-
  The law DigitsOrder returns true, for every input, in every world.
-/
import Derived.Test.YtfifbaclpljmdaaDigBack
namespace Go.Proofs.Ytfifbaclpljmdaa
open Go.RowKit

theorem dg_lt (x y : Nat) : decide (dg x < dg y) = decide (x % 10 < y % 10) := by
  rw [Bool.eq_iff_iff, decide_eq_true_eq, decide_eq_true_eq, UInt8.lt_iff_toNat_lt, dg_toNat, dg_toNat]; omega
theorem dg_eq (x y : Nat) : (dg x == dg y) = decide (x % 10 = y % 10) := by
  rw [Bool.eq_iff_iff, decide_eq_true_eq, beq_iff_eq, ← UInt8.toNat_inj, dg_toNat, dg_toNat]; omega
theorem mod_split (n k : Nat) : n % 10 ^ (k + 1) = 10 ^ k * (n / 10 ^ k % 10) + n % 10 ^ k := by
  rw [Nat.pow_succ, Nat.mod_mul]; omega
theorem less_put (n m k : Nat) : Op.bytesLess (putL n k) (putL m k) = decide (n % 10 ^ k < m % 10 ^ k) := by
  induction k with
  | zero => simp [putL, Op.bytesLess, Nat.mod_one]
  | succ k ih =>
    rw [putL_cons, putL_cons, Op.bytesLess, ih, dg_lt, dg_eq, mod_split n k, mod_split m k]
    have hp : 0 < 10 ^ k := Nat.pow_pos (by omega)
    have h1 := Nat.mod_lt n hp
    have h2 := Nat.mod_lt m hp
    generalize n / 10 ^ k % 10 = x
    generalize m / 10 ^ k % 10 = y
    generalize n % 10 ^ k = r at *
    generalize m % 10 ^ k = t at *
    generalize 10 ^ k = p at *
    rcases Nat.lt_trichotomy x y with h | h | h
    · have : p * x + p ≤ p * y := by rw [← Nat.mul_succ]; exact Nat.mul_le_mul_left p h
      simp [h]; omega
    · subst h; simp
    · have : p * y + p ≤ p * x := by rw [← Nat.mul_succ]; exact Nat.mul_le_mul_left p h
      have e1 : ¬ x < y := by omega
      have e2 : ¬ x = y := by omega
      simp [e1, e2]; omega

theorem less_putS {a b : Int} (ha : putB a 18 = true) (hb : putB b 18 = true) : Op.bytesLess (putS a 18).toList (putS b 18).toList = decide (a < b) := by
  have h1 := putB_iff ha
  have h2 := putB_iff hb
  rw [Lib.toList_data, Lib.toList_data, putS_list ha, putS_list hb, less_put, Nat.mod_eq_of_lt h1.2.2.2, Nat.mod_eq_of_lt h2.2.2.2]
  rw [Bool.eq_iff_iff, decide_eq_true_eq, decide_eq_true_eq]; omega
theorem eq_putS {a b : Int} (ha : putB a 18 = true) (hb : putB b 18 = true) : ((putS a 18).toList == (putS b 18).toList) = (a == b) := by
  rw [Bool.eq_iff_iff, beq_iff_eq, beq_iff_eq, Lib.toList_data, Lib.toList_data]
  constructor
  · intro h
    have := (get_putS ha).2
    rw [h, (get_putS hb).2] at this
    exact this.symm
  · intro h; rw [h]

theorem pad_put {a m : Int} (ha : putB a 18 = true) (h1 : 18 ≤ m) (h2 : m ≤ 999) :
    padB (putS a 18).data.toList m = true ∧ ((padS (putS a 18).data.toList m).size : Int) = m ∧ padB (padS (putS a 18).data.toList m).data.toList 18 = true ∧ padS (padS (putS a 18).data.toList m).data.toList 18 = putS a 18 := by
  have hl : (putS a 18).data.toList.length = 18 := by rw [putS_list ha, putL_length]; rfl
  have hd : allD (putS a 18).data.toList = true := by rw [putS_list ha]; exact putL_all _ _
  generalize putS a 18 = s at *
  obtain ⟨m, rfl⟩ := Int.eq_ofNat_of_zero_le (show 0 ≤ m by omega)
  have hA : padA s.data.toList (m : Int) = true := padA_yes (by omega) (by omega) hd (by omega) (by omega)
  have hB : padB s.data.toList (m : Int) = true := by
    rw [padB_eq hA, hl, Int.toNat_natCast, show 18 - m = 0 from by omega]; rfl
  have hu : (padS s.data.toList (m : Int)).data.toList = List.replicate (m - 18) 48 ++ s.data.toList := by
    rw [padS_yes hB]
    show padL s.data.toList (m : Int) = _
    unfold padL
    rw [hl, Int.toNat_natCast, show 18 - m = 0 from by omega]
    simp
  generalize padS s.data.toList (m : Int) = u at *
  have hul : u.data.toList.length = m := by rw [hu, List.length_append, hl, List.length_replicate]; omega
  have hud : allD u.data.toList = true := by
    rw [hu]
    unfold allD at *
    rw [List.all_append, hd, List.all_replicate]
    simp
    right
    decide
  have hA2 : padA u.data.toList 18 = true := padA_yes (by omega) (by omega) hud (by omega) (by omega)
  have hB2 : padB u.data.toList 18 = true := by
    rw [padB_eq hA2, hul, show ((18 : Int).toNat) = 18 from rfl, hu, List.take_left' (by simp)]
    unfold zs
    rw [List.all_replicate]
    simp
  refine ⟨hB, by rw [Lib.size_eq, hul], hB2, ?_⟩
  apply bs_ext
  rw [padS_yes hB2]
  show padL u.data.toList 18 = _
  unfold padL
  rw [hul, show ((18 : Int).toNat) = 18 from rfl, show 18 - m = 0 from by omega, hu, List.drop_left' (by simp)]
  simp

set_option maxHeartbeats 2000000 in
theorem order_any (a b m : Int) (w : World) (_ : -9223372036854775808 ≤ a) (ha : a ≤ 9223372036854775807) (_ : -9223372036854775808 ≤ b) (hb : b ≤ 9223372036854775807) (_ : -9223372036854775808 ≤ m) (_ : m ≤ 9223372036854775807) :
    Calls Try.prog 7 #[.int .i64 a, .int .i64 b, .int .i64 m] w fun e w' => e = .returned (.bool true) ∧ Below w.heap.size w w' := by
  have hA := fun w => put_any a 18 w ha
  have hB := fun w => put_any b 18 w hb
  by_cases hm : putB a 18 = true ∧ putB b 18 = true ∧ 18 ≤ m ∧ m ≤ 999
  · obtain ⟨pa, pb, h1, h2⟩ := hm
    have hlt := less_putS pa pb
    have heq := eq_putS pa pb
    have hpp := pad_put pa h1 h2
    have hsz := putS_size pa
    have hU := fun w => pad_any (putS a 18) m w (by unfold maxLen; omega)
    have hV := fun w => pad_any (padS (putS a 18).data.toList m) 18 w (by unfold maxLen; omega)
    rw [hpp.2.2.1, hpp.2.2.2] at hV
    rw [hpp.1] at hU
    have hus := hpp.2.1
    rw [pa] at hA
    rw [pb] at hB
    clear pa pb hpp hsz
    generalize padS (putS a 18).data.toList m = u at *
    generalize putS a 18 = s at *
    generalize putS b 18 = t at *
    have t3 : decide (m < 18) = false := by simpa using h1
    have t4 : decide (999 < m) = false := by simpa using h2
    have HA := Lib.hid hA
    have HB := Lib.hid hB
    have HU := Lib.hid hU
    have HV := Lib.hid hV
    clear hA hB hU hV
    go_enter Try.func7, Try.ntmps7
    go_wp2_with fail
    refine (HA.out _).mono ?_
    rintro e w1 ⟨rfl, hb1⟩
    go_wp2_with fail
    refine (HB.out _).mono ?_
    rintro e w2 ⟨rfl, hb2⟩
    go_wp2_with fail
    refine (awake_any _).mono ?_
    rintro e w3 ⟨rfl, hb3⟩
    go_wp2_with fail
    refine (HU.out _).mono ?_
    rintro e w4 ⟨rfl, hb4⟩
    go_wp2_with fail
    refine (HV.out _).mono ?_
    rintro e w5 ⟨rfl, hb5⟩
    go_wp2_with fail
    go_ret
    exact ⟨by simp, bt (bt (bt (bt hb1 hb2) hb3) hb4) hb5⟩
  · cases pa : putB a 18
    · rw [pa] at hA
      have HA := Lib.hid hA
      have HB := Lib.hid hB
      clear hA hB pa hm
      go_enter Try.func7, Try.ntmps7
      go_wp2_with fail
      refine (HA.out _).mono ?_
      rintro e w1 ⟨rfl, hb1⟩
      go_wp2_with fail
      refine (HB.out _).mono ?_
      rintro e w2 ⟨rfl, hb2⟩
      go_wp2_with fail
      refine (awake_any _).mono ?_
      rintro e w3 ⟨rfl, hb3⟩
      go_wp2_with fail
      refine (awake_any _).mono ?_
      rintro e w4 ⟨rfl, hb4⟩
      go_wp2_with fail
      go_ret
      exact ⟨rfl, bt (bt (bt hb1 hb2) hb3) hb4⟩
    · cases pb : putB b 18
      · rw [pa] at hA
        rw [pb] at hB
        have HA := Lib.hid hA
        have HB := Lib.hid hB
        clear hA hB pa pb hm
        go_enter Try.func7, Try.ntmps7
        go_wp2_with fail
        refine (HA.out _).mono ?_
        rintro e w1 ⟨rfl, hb1⟩
        go_wp2_with fail
        refine (HB.out _).mono ?_
        rintro e w2 ⟨rfl, hb2⟩
        go_wp2_with fail
        refine (awake_any _).mono ?_
        rintro e w3 ⟨rfl, hb3⟩
        go_wp2_with fail
        refine (awake_any _).mono ?_
        rintro e w4 ⟨rfl, hb4⟩
        go_wp2_with fail
        go_ret
        exact ⟨rfl, bt (bt (bt hb1 hb2) hb3) hb4⟩
      · have hmm : m < 18 ∨ 999 < m := by
          by_cases h1 : m < 18
          · exact Or.inl h1
          · by_cases h2 : 999 < m
            · exact Or.inr h2
            · exact absurd ⟨pa, pb, by omega, by omega⟩ hm
        rw [pa] at hA
        rw [pb] at hB
        have HA := Lib.hid hA
        have HB := Lib.hid hB
        clear hA hB pa pb hm
        by_cases h1 : m < 18
        · have t3 : decide (m < 18) = true := by simpa using h1
          clear hmm
          go_enter Try.func7, Try.ntmps7
          go_wp2_with fail
          refine (HA.out _).mono ?_
          rintro e w1 ⟨rfl, hb1⟩
          go_wp2_with fail
          refine (HB.out _).mono ?_
          rintro e w2 ⟨rfl, hb2⟩
          go_wp2_with fail
          refine (awake_any _).mono ?_
          rintro e w3 ⟨rfl, hb3⟩
          go_wp2_with fail
          refine (awake_any _).mono ?_
          rintro e w4 ⟨rfl, hb4⟩
          go_wp2_with fail
          go_ret
          exact ⟨rfl, bt (bt (bt hb1 hb2) hb3) hb4⟩
        · have h2 : 999 < m := by omega
          have t3 : decide (m < 18) = false := by simpa using h1
          have t4 : decide (999 < m) = true := by simpa using h2
          clear hmm
          go_enter Try.func7, Try.ntmps7
          go_wp2_with fail
          refine (HA.out _).mono ?_
          rintro e w1 ⟨rfl, hb1⟩
          go_wp2_with fail
          refine (HB.out _).mono ?_
          rintro e w2 ⟨rfl, hb2⟩
          go_wp2_with fail
          refine (awake_any _).mono ?_
          rintro e w3 ⟨rfl, hb3⟩
          go_wp2_with fail
          refine (awake_any _).mono ?_
          rintro e w4 ⟨rfl, hb4⟩
          go_wp2_with fail
          go_ret
          exact ⟨rfl, bt (bt (bt hb1 hb2) hb3) hb4⟩

end Go.Proofs.Ytfifbaclpljmdaa
