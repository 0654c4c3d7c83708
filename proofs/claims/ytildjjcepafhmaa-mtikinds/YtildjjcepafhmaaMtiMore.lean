/-
  The law MtiKinds, walked: it returns true, for every input, in every world.
-/
import Derived.Test.YtildjjcepafhmaaMtiAwake
namespace Go.Proofs.Ytildjjcepafhmaa
open Go.RowKit

set_option maxHeartbeats 1600000 in
theorem mkinds_far (s t : ByteArray) (n : Int) (w : World) (hm : s.size ≤ maxLen) (hm2 : t.size ≤ maxLen) (h : 100 < s.size ∨ 100 < t.size ∨ n < 0 ∨ 9 < n) :
    Calls Try.prog 6 #[.string s, .string t, .int .i64 n] w fun e w' => e = .returned (.bool true) ∧ Below w.heap.size w w' := by
  have HA := Lib.hid mwake_any
  unfold maxLen at hm hm2
  by_cases h1 : 100 < s.size
  · have d1 : decide ((100 : Int) < (s.size : Int)) = true := by simp; omega
    clear h h1
    go_enter Try.func6, Try.ntmps6
    go_wp2_with fail
    refine (HA.out _).mono ?_
    rintro e w1 ⟨rfl, hb1⟩
    go_wp2_with fail
    refine (HA.out _).mono ?_
    rintro e w2 ⟨rfl, hb2⟩
    go_wp2
    go_ret
    exact ⟨rfl, hbt hb1 hb2⟩
  have d1 : decide ((100 : Int) < (s.size : Int)) = false := by simp; omega
  by_cases h2 : 100 < t.size
  · have d2 : decide ((100 : Int) < (t.size : Int)) = true := by simp; omega
    clear h h1 h2
    go_enter Try.func6, Try.ntmps6
    go_wp2_with fail
    refine (HA.out _).mono ?_
    rintro e w1 ⟨rfl, hb1⟩
    go_wp2_with fail
    refine (HA.out _).mono ?_
    rintro e w2 ⟨rfl, hb2⟩
    go_wp2
    go_ret
    exact ⟨rfl, hbt hb1 hb2⟩
  have d2 : decide ((100 : Int) < (t.size : Int)) = false := by simp; omega
  by_cases h3 : n < 0
  · have d3 : decide (n < 0) = true := by simpa using h3
    clear h h1 h2 h3
    go_enter Try.func6, Try.ntmps6
    go_wp2_with fail
    refine (HA.out _).mono ?_
    rintro e w1 ⟨rfl, hb1⟩
    go_wp2_with fail
    refine (HA.out _).mono ?_
    rintro e w2 ⟨rfl, hb2⟩
    go_wp2
    go_ret
    exact ⟨rfl, hbt hb1 hb2⟩
  have d3 : decide (n < 0) = false := by simpa using h3
  have d4 : decide (9 < n) = true := by simp; omega
  clear h h1 h2 h3
  go_enter Try.func6, Try.ntmps6
  go_wp2_with fail
  refine (HA.out _).mono ?_
  rintro e w1 ⟨rfl, hb1⟩
  go_wp2_with fail
  refine (HA.out _).mono ?_
  rintro e w2 ⟨rfl, hb2⟩
  go_wp2
  go_ret
  exact ⟨rfl, hbt hb1 hb2⟩
set_option maxHeartbeats 1600000 in
theorem mkinds_no (s t x y : ByteArray) (n : Nat) (p q : Bool) (w : World) (hs : s.size ≤ 100) (ht : t.size ≤ 100) (hn : n < 10) (h : (p && q) = false)
    (hp : ∀ W, Calls Try.prog 15 #[.string s] W fun e w' => e = .returned (.tuple #[.string x, .bool p]) ∧ Below W.heap.size W w')
    (hq : ∀ W, Calls Try.prog 15 #[.string t] W fun e w' => e = .returned (.tuple #[.string y, .bool q]) ∧ Below W.heap.size W w') :
    Calls Try.prog 6 #[.string s, .string t, .int .i64 (n : Int)] w fun e w' => e = .returned (.bool true) ∧ Below w.heap.size w w' := by
  have HA := Lib.hid mwake_any
  have HP := Lib.hid hp
  have HQ := Lib.hid hq
  have d1 : decide ((100 : Int) < (s.size : Int)) = false := by simp; omega
  have d2 : decide ((100 : Int) < (t.size : Int)) = false := by simp; omega
  have d3 : decide ((n : Int) < 0) = false := by simp
  have d4 : decide ((9 : Int) < (n : Int)) = false := by simp; omega
  clear hs ht hn hp hq
  cases p
  · clear h
    go_enter Try.func6, Try.ntmps6
    go_wp2_with fail
    refine (HA.out _).mono ?_
    rintro e w1 ⟨rfl, hb1⟩
    go_wp2_with fail
    refine (HP.out _).mono ?_
    rintro e w2 ⟨rfl, hb2⟩
    go_wp2_with fail
    refine (HQ.out _).mono ?_
    rintro e w3 ⟨rfl, hb3⟩
    go_wp2
    go_ret
    exact ⟨rfl, hbt (hbt hb1 hb2) hb3⟩
  · cases q
    · clear h
      go_enter Try.func6, Try.ntmps6
      go_wp2_with fail
      refine (HA.out _).mono ?_
      rintro e w1 ⟨rfl, hb1⟩
      go_wp2_with fail
      refine (HP.out _).mono ?_
      rintro e w2 ⟨rfl, hb2⟩
      go_wp2_with fail
      refine (HQ.out _).mono ?_
      rintro e w3 ⟨rfl, hb3⟩
      go_wp2
      go_ret
      exact ⟨rfl, hbt (hbt hb1 hb2) hb3⟩
    · cases h
set_option maxHeartbeats 1600000 in
theorem mkinds_yes (s t x y u v : ByteArray) (n : Nat) (r : Bool) (w : World) (hs : s.size ≤ 100) (ht : t.size ≤ 100) (hn : n < 10)
    (hxy : (x.toList == y.toList) = r) (hst : (s.toList == t.toList) = r)
    (hp : ∀ W, Calls Try.prog 15 #[.string s] W fun e w' => e = .returned (.tuple #[.string x, .bool true]) ∧ Below W.heap.size W w')
    (hq : ∀ W, Calls Try.prog 15 #[.string t] W fun e w' => e = .returned (.tuple #[.string y, .bool true]) ∧ Below W.heap.size W w')
    (hw : ∀ W, Calls Try.prog 13 #[.string s, .int .i64 (n : Int)] W fun e w' => e = .returned (.tuple #[.string u, .bool true]) ∧ Below W.heap.size W w')
    (hu : ∀ W, Calls Try.prog 15 #[.string u] W fun e w' => e = .returned (.tuple #[.string v, .bool true]) ∧ Below W.heap.size W w')
    (hv : ∀ W, Calls Try.prog 13 #[.string x, .int .i64 (n : Int)] W fun e w' => e = .returned (.tuple #[.string v, .bool true]) ∧ Below W.heap.size W w') :
    Calls Try.prog 6 #[.string s, .string t, .int .i64 (n : Int)] w fun e w' => e = .returned (.bool true) ∧ Below w.heap.size w w' := by
  have HA := Lib.hid mwake_any
  have HP := Lib.hid hp
  have HQ := Lib.hid hq
  have HW := Lib.hid hw
  have HU := Lib.hid hu
  have HV := Lib.hid hv
  have d1 : decide ((100 : Int) < (s.size : Int)) = false := by simp; omega
  have d2 : decide ((100 : Int) < (t.size : Int)) = false := by simp; omega
  have d3 : decide ((n : Int) < 0) = false := by simp
  have d4 : decide ((9 : Int) < (n : Int)) = false := by simp; omega
  clear hs ht hn hp hq hw hu hv
  cases r
  · go_enter Try.func6, Try.ntmps6
    go_wp2_with fail
    refine (HA.out _).mono ?_
    rintro e w1 ⟨rfl, hb1⟩
    go_wp2_with fail
    refine (HP.out _).mono ?_
    rintro e w2 ⟨rfl, hb2⟩
    go_wp2_with fail
    refine (HQ.out _).mono ?_
    rintro e w3 ⟨rfl, hb3⟩
    go_wp2_with fail
    refine (HW.out _).mono ?_
    rintro e w4 ⟨rfl, hb4⟩
    go_wp2_with fail
    refine (HU.out _).mono ?_
    rintro e w5 ⟨rfl, hb5⟩
    go_wp2_with fail
    refine (HV.out _).mono ?_
    rintro e w6 ⟨rfl, hb6⟩
    go_wp2
    go_ret
    exact ⟨rfl, hbt (hbt (hbt (hbt (hbt hb1 hb2) hb3) hb4) hb5) hb6⟩
  · go_enter Try.func6, Try.ntmps6
    go_wp2_with fail
    refine (HA.out _).mono ?_
    rintro e w1 ⟨rfl, hb1⟩
    go_wp2_with fail
    refine (HP.out _).mono ?_
    rintro e w2 ⟨rfl, hb2⟩
    go_wp2_with fail
    refine (HQ.out _).mono ?_
    rintro e w3 ⟨rfl, hb3⟩
    go_wp2_with fail
    refine (HW.out _).mono ?_
    rintro e w4 ⟨rfl, hb4⟩
    go_wp2_with fail
    refine (HU.out _).mono ?_
    rintro e w5 ⟨rfl, hb5⟩
    go_wp2_with fail
    refine (HV.out _).mono ?_
    rintro e w6 ⟨rfl, hb6⟩
    go_wp2
    go_ret
    exact ⟨rfl, hbt (hbt (hbt (hbt (hbt hb1 hb2) hb3) hb4) hb5) hb6⟩

theorem same_T4 {a b c d a' b' c' d' : UInt8} : ((T4 a b (c + 1) d).toList == (T4 a' b' (c' + 1) d').toList) = ((T4 a b c d).toList == (T4 a' b' c' d').toList) := by
  rw [ByteArray.toList_eq, ByteArray.toList_eq, ByteArray.toList_eq, ByteArray.toList_eq, T4_list, T4_list, T4_list, T4_list, Bool.eq_iff_iff]
  simp
theorem mkinds_walk (s t : ByteArray) (n : Int) (w : World) (hm : s.size ≤ maxLen) (hm2 : t.size ≤ maxLen) (_h1 : -9223372036854775808 ≤ n) (_h2 : n ≤ 9223372036854775807) :
    Calls Try.prog 6 #[.string s, .string t, .int .i64 n] w fun e w' => e = .returned (.bool true) ∧ Below w.heap.size w w' := by
  by_cases hf : 100 < s.size ∨ 100 < t.size ∨ n < 0 ∨ 9 < n
  · exact mkinds_far s t n w hm hm2 hf
  obtain ⟨n, rfl⟩ := Int.eq_ofNat_of_zero_le (show 0 ≤ n by omega)
  have hn : n < 10 := by omega
  cases h : askB s.data.toList
  · cases g : askB t.data.toList
    · exact mkinds_no s t _ _ n _ _ w (by omega) (by omega) hn rfl (fun W => mresp_no s W h) (fun W => mresp_no t W g)
    · obtain ⟨a, b, c, d, rfl, ha, hb, hc, hd⟩ := ask_of g
      exact mkinds_no s _ _ _ n _ _ w (by omega) (by omega) hn rfl (fun W => mresp_no s W h) (fun W => mresp_yes a b c d W ha hb hc hd)
  · obtain ⟨a, b, c, d, rfl, ha, hb, hc, hd⟩ := ask_of h
    cases g : askB t.data.toList
    · exact mkinds_no _ t _ _ n _ _ w (by omega) (by omega) hn rfl (fun W => mresp_yes a b c d W ha hb hc hd) (fun W => mresp_no t W g)
    · obtain ⟨a', b', c', d', rfl, ha', hb', hc', hd'⟩ := ask_of g
      obtain ⟨_, _, hg, _⟩ := put_one hn
      obtain ⟨_, hc1, hc0⟩ := num_next ha hb hc hd
      exact mkinds_yes _ _ _ _ _ _ n _ w (by omega) (by omega) hn same_T4 rfl (fun W => mresp_yes a b c d W ha hb hc hd) (fun W => mresp_yes a' b' c' d' W ha' hb' hc' hd') (fun W => mwith_yes a b c d n W hn ha hb hc0 hd) (fun W => mresp_yes (dg n) b c d W hg hb hc hd) (fun W => mwith_yes a b (c + 1) d n W hn ha hb hc1 hd)

end Go.Proofs.Ytildjjcepafhmaa
