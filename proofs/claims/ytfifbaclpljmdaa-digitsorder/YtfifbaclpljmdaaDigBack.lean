/-
  The law DigitsBack returns true, for every input, in every world.
-/
import Derived.Test.YtfifbaclpljmdaaDigLaws
namespace Go.Proofs.Ytfifbaclpljmdaa
open Go.RowKit

theorem putB_iff {n w : Int} (h : putB n w = true) : 0 ≤ n ∧ 1 ≤ w ∧ w ≤ 18 ∧ n.toNat < 10 ^ w.toNat := by
  simp only [putB, Bool.and_eq_true, decide_eq_true_eq] at h
  obtain ⟨⟨⟨h0, h1⟩, h2⟩, h3⟩ := h
  refine ⟨h0, h1, h2, ?_⟩
  have h4 : ((n.toNat : Nat) : Int) < ((10 ^ w.toNat : Nat) : Int) := by
    rw [Int.toNat_of_nonneg h0]; simpa using h3
  exact Int.ofNat_lt.1 h4
theorem putB_of {n w : Int} (h0 : 0 ≤ n) (h1 : 1 ≤ w) (h2 : w ≤ 18) (h3 : n.toNat < 10 ^ w.toNat) : putB n w = true :=
  putB_mk h0 h1 h2 (Nat.div_eq_of_lt h3)
theorem putS_list {n w : Int} (h : putB n w = true) : (putS n w).data.toList = putL n.toNat w.toNat := by
  rw [putS_yes h]
theorem putS_size {n w : Int} (h : putB n w = true) : ((putS n w).size : Int) = w := by
  have := putB_iff h
  rw [Lib.size_eq, putS_list h, putL_length]; omega
theorem get_putS {n w : Int} (h : putB n w = true) : getB (putS n w).data.toList = true ∧ getN (putS n w).data.toList = n := by
  have hh := putB_iff h
  have hb : getB (putS n w).data.toList = true := by
    rw [putS_list h]
    exact getB_yes (by rw [putL_length]; omega) (by rw [putL_length]; omega) (putL_all _ _)
  refine ⟨hb, ?_⟩
  rw [getN_yes hb, putS_list h, numL_putL, Nat.mod_eq_of_lt hh.2.2.2]
  omega
theorem getB_iff {l : List UInt8} (h : getB l = true) : 1 ≤ l.length ∧ l.length ≤ 18 ∧ allD l = true := by
  simp only [getB, Bool.and_eq_true, decide_eq_true_eq] at h
  exact ⟨h.1.1, h.1.2, h.2⟩
theorem put_getN {s : ByteArray} (h : getB s.data.toList = true) : putB (getN s.data.toList) (s.size : Int) = true ∧ putS (getN s.data.toList) (s.size : Int) = s := by
  have hh := getB_iff h
  have hlt := numL_lt _ hh.2.2
  rw [← Lib.size_eq] at hh hlt
  rw [getN_yes h]
  have hp : putB (numL s.data.toList : Int) (s.size : Int) = true := putB_of (by omega) (by omega) (by omega) (by simpa using hlt)
  refine ⟨hp, bs_ext ?_⟩
  rw [putS_list hp, Int.toNat_natCast, Int.toNat_natCast, Lib.size_eq]
  exact putL_numL _ hh.2.2
theorem getN_bd {l : List UInt8} : 0 ≤ getN l ∧ getN l ≤ 1000000000000000000 := by
  cases h : getB l
  · rw [getN_no h]; omega
  · rw [getN_yes h]
    have hh := getB_iff h
    have h1 := numL_lt _ hh.2.2
    have h2 := pow18 _ hh.2.1
    omega

set_option maxHeartbeats 2000000 in
theorem back_any (n k : Int) (s : ByteArray) (w : World) (_ : -9223372036854775808 ≤ n) (hn : n ≤ 9223372036854775807) (_ : -9223372036854775808 ≤ k) (_ : k ≤ 9223372036854775807) (hs : s.size ≤ maxLen) : Calls Try.prog 6 #[.int .i64 n, .int .i64 k, .string s] w fun e w' => e = .returned (.bool true) ∧ Below w.heap.size w w' := by
  by_cases h : 100 < s.size
  · unfold maxLen at hs
    have t1 : decide ((100 : Int) < (s.size : Int)) = true := by simp; omega
    go_enter Try.func6, Try.ntmps6
    go_wp2_with fail
    refine (awake_any _).mono ?_
    rintro e w1 ⟨rfl, hb1⟩
    go_wp2_with fail
    refine (awake_any _).mono ?_
    rintro e w2 ⟨rfl, hb2⟩
    go_wp2_with fail
    go_ret
    exact ⟨rfl, bt hb1 hb2⟩
  · have hp := fun w => put_any n k w hn
    have hg := fun w => get_any s w hs
    have hg2 : putB n k = true → ∀ w, Calls Try.prog 11 #[.string (putS n k)] w fun e w' => e = .returned (.tuple #[.int .i64 n, .bool true]) ∧ Below w.heap.size w w' := by
      intro hb w
      have h := get_any (putS n k) w (by have := putS_size hb; have := (putB_iff hb).2.2.1; unfold maxLen; omega)
      rw [(get_putS hb).1, (get_putS hb).2] at h
      exact h
    have hp2 : getB s.data.toList = true → ∀ w, Calls Try.prog 8 #[.int .i64 (getN s.data.toList), .int .i64 (s.size : Int)] w fun e w' => e = .returned (.tuple #[.string s, .bool true]) ∧ Below w.heap.size w w' := by
      intro hb w
      have h := put_any (getN s.data.toList) (s.size : Int) w (by have := @getN_bd s.data.toList; omega)
      rw [(put_getN hb).1, (put_getN hb).2] at h
      exact h
    have hz : getB s.data.toList = false → getN s.data.toList = 0 := getN_no
    have hsz : putB n k = true → ((putS n k).size : Int) = k := putS_size
    have t1 : decide ((100 : Int) < (s.size : Int)) = false := by simp; omega
    unfold maxLen at hs
    generalize getN s.data.toList = gn at hg hp2 hz
    generalize hgb : getB s.data.toList = gb at hg hp2 hz
    generalize hpb : putB n k = pb at hp hg2 hsz
    generalize putS n k = ps at hp hg2 hsz
    clear hgb hpb
    have HP := Lib.hid hp
    have HG := Lib.hid hg
    clear hp hg
    cases gb
    · obtain rfl : gn = 0 := hz rfl
      clear hz hp2
      cases pb
      · clear hg2 hsz
        go_enter Try.func6, Try.ntmps6
        go_wp2_with fail
        refine (awake_any _).mono ?_
        rintro e w1 ⟨rfl, hb1⟩
        go_wp2_with fail
        refine (HP.out _).mono ?_
        rintro e w2 ⟨rfl, hb2⟩
        go_wp2_with fail
        refine (HG.out _).mono ?_
        rintro e w3 ⟨rfl, hb3⟩
        go_wp2_with fail
        go_ret
        exact ⟨rfl, bt (bt hb1 hb2) hb3⟩
      · have HG2 := Lib.hid (hg2 rfl)
        obtain rfl := hsz rfl
        clear hg2 hsz
        go_enter Try.func6, Try.ntmps6
        go_wp2_with fail
        refine (awake_any _).mono ?_
        rintro e w1 ⟨rfl, hb1⟩
        go_wp2_with fail
        refine (HP.out _).mono ?_
        rintro e w2 ⟨rfl, hb2⟩
        go_wp2_with fail
        refine (HG2.out _).mono ?_
        rintro e w3 ⟨rfl, hb3⟩
        go_wp2_with fail
        refine (HG.out _).mono ?_
        rintro e w4 ⟨rfl, hb4⟩
        go_wp2_with fail
        go_ret
        exact ⟨rfl, bt (bt (bt hb1 hb2) hb3) hb4⟩
    · have HP2 := Lib.hid (hp2 rfl)
      clear hz hp2
      cases pb
      · clear hg2 hsz
        go_enter Try.func6, Try.ntmps6
        go_wp2_with fail
        refine (awake_any _).mono ?_
        rintro e w1 ⟨rfl, hb1⟩
        go_wp2_with fail
        refine (HP.out _).mono ?_
        rintro e w2 ⟨rfl, hb2⟩
        go_wp2_with fail
        refine (HG.out _).mono ?_
        rintro e w3 ⟨rfl, hb3⟩
        go_wp2_with fail
        refine (HP2.out _).mono ?_
        rintro e w4 ⟨rfl, hb4⟩
        go_wp2_with fail
        go_ret
        exact ⟨by simp, bt (bt (bt hb1 hb2) hb3) hb4⟩
      · have HG2 := Lib.hid (hg2 rfl)
        obtain rfl := hsz rfl
        clear hg2 hsz
        go_enter Try.func6, Try.ntmps6
        go_wp2_with fail
        refine (awake_any _).mono ?_
        rintro e w1 ⟨rfl, hb1⟩
        go_wp2_with fail
        refine (HP.out _).mono ?_
        rintro e w2 ⟨rfl, hb2⟩
        go_wp2_with fail
        refine (HG2.out _).mono ?_
        rintro e w3 ⟨rfl, hb3⟩
        go_wp2_with fail
        refine (HG.out _).mono ?_
        rintro e w4 ⟨rfl, hb4⟩
        go_wp2_with fail
        refine (HP2.out _).mono ?_
        rintro e w5 ⟨rfl, hb5⟩
        go_wp2_with fail
        go_ret
        exact ⟨by simp, bt (bt (bt (bt hb1 hb2) hb3) hb4) hb5⟩

end Go.Proofs.Ytfifbaclpljmdaa
