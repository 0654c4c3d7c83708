/-
  The laws MtiTells, MtiTurns and MtiResponses, walked: each returns true, for every input, in every world.
-/
import Derived.Test.YtildjjcepafhmaaMtiAwake
namespace Go.Proofs.Ytildjjcepafhmaa
open Go.RowKit

set_option maxHeartbeats 800000 in
theorem mtells_far (s : ByteArray) (w : World) (hs : 100 < s.size) :
    Calls Try.prog 3 #[.string s] w fun e w' => e = .returned (.bool true) ∧ Below w.heap.size w w' := by
  have HA := Lib.hid mwake_any
  have hd : decide ((100 : Int) < (s.size : Int)) = true := by simp; omega
  clear hs
  go_enter Try.func3, Try.ntmps3
  go_wp2_with fail
  refine (HA.out _).mono ?_
  rintro e w1 ⟨rfl, hb1⟩
  go_wp2_with fail
  refine (HA.out _).mono ?_
  rintro e w2 ⟨rfl, hb2⟩
  go_wp2
  go_ret
  exact ⟨rfl, hbt hb1 hb2⟩
set_option maxHeartbeats 1600000 in
theorem mtells_no (s : ByteArray) (w : World) (hs : s.size ≤ 100) (h : mtiB s.data.toList = false) :
    Calls Try.prog 3 #[.string s] w fun e w' => e = .returned (.bool true) ∧ Below w.heap.size w w' := by
  have HA := Lib.hid mwake_any
  have HV := Lib.hid (fun W => mver_no s W h)
  have HR := Lib.hid (mright_any s)
  have HRR := Lib.hid (fun W => mrefRight_any s W (by unfold maxLen; omega))
  have HQ := Lib.hid (mreq_any s)
  have HRQ := Lib.hid (fun W => mrefReq_any s W (by unfold maxLen; omega))
  rw [ask_none h] at HQ HRQ
  rw [h] at HR HRR
  have hd : decide ((100 : Int) < (s.size : Int)) = false := by simp; omega
  clear hs h
  go_enter Try.func3, Try.ntmps3
  go_wp2_with fail
  refine (HA.out _).mono ?_
  rintro e w1 ⟨rfl, hb1⟩
  go_wp2_with fail
  refine (HV.out _).mono ?_
  rintro e w2 ⟨rfl, hb2⟩
  go_wp2_with fail
  refine (HRR.out _).mono ?_
  rintro e w3 ⟨rfl, rfl⟩
  go_wp2_with fail
  refine (HR.out _).mono ?_
  rintro e w4 ⟨rfl, hb4⟩
  go_wp2_with fail
  refine (HQ.out _).mono ?_
  rintro e w5 ⟨rfl, hb5⟩
  go_wp2_with fail
  refine (HRQ.out _).mono ?_
  rintro e w6 ⟨rfl, rfl⟩
  go_wp2
  go_ret
  exact ⟨rfl, hbt (hbt (hbt hb1 hb2) hb4) hb5⟩
set_option maxHeartbeats 1600000 in
theorem mtells_yes (s : ByteArray) (a : Nat) (r : Bool) (w : World) (hs : s.size ≤ 100) (h : mtiB s.data.toList = true) (ha : a < 256) (ha0 : 48 ≤ a)
    (hr : askB s.data.toList = r)
    (hv : ∀ W, Calls Try.prog 8 #[.string s] W fun e w' => e = .returned (.tuple #[.int .i64 ((a : Int) - 48), .bool true]) ∧ Below W.heap.size W w')
    (hix : ∀ W, (Instr.index 9 (.string s) (.int .i64 0)).run Try.prog W = .ok (.int .u8 (a : Int)) W) :
    Calls Try.prog 3 #[.string s] w fun e w' => e = .returned (.bool true) ∧ Below w.heap.size w w' := by
  have HA := Lib.hid mwake_any
  have HV := Lib.hid hv
  have HR := Lib.hid (mright_any s)
  have HRR := Lib.hid (fun W => mrefRight_any s W (by unfold maxLen; omega))
  have HQ := Lib.hid (mreq_any s)
  have HRQ := Lib.hid (fun W => mrefReq_any s W (by unfold maxLen; omega))
  rw [hr] at HQ HRQ
  rw [h] at HR HRR
  have hd : decide ((100 : Int) < (s.size : Int)) = false := by simp; omega
  have ha1 : (a : Int) < 256 := by omega
  clear hs h hv hr
  go_enter Try.func3, Try.ntmps3
  go_wp2_with fail
  refine (HA.out _).mono ?_
  rintro e w1 ⟨rfl, hb1⟩
  go_wp2_with fail
  refine (HV.out _).mono ?_
  rintro e w2 ⟨rfl, hb2⟩
  go_wp2_with fail
  refine (HRR.out _).mono ?_
  rintro e w3 ⟨rfl, rfl⟩
  go_wp2_with fail
  refine (HR.out _).mono ?_
  rintro e w4 ⟨rfl, hb4⟩
  go_wp2_with fail
  refine (HQ.out _).mono ?_
  rintro e w5 ⟨rfl, hb5⟩
  go_wp2_with fail
  refine (HRQ.out _).mono ?_
  rintro e w6 ⟨rfl, rfl⟩
  go_wp2
  go_ret
  exact ⟨by simp, hbt (hbt (hbt hb1 hb2) hb4) hb5⟩
theorem mtells_walk (s : ByteArray) (w : World) (_hm : s.size ≤ maxLen) :
    Calls Try.prog 3 #[.string s] w fun e w' => e = .returned (.bool true) ∧ Below w.heap.size w w' := by
  by_cases hs : 100 < s.size
  · exact mtells_far s w hs
  cases h : mtiB s.data.toList
  · exact mtells_no s w (by omega) h
  · obtain ⟨a, b, c, d, rfl, ha, hb, hc, hd⟩ := mti_of h
    have g := (isD_iff a).1 ha
    refine mtells_yes _ a.toNat _ w (by omega) h a.toNat_lt g.1 rfl (fun W => ?_) (ix_T4_0 a b c d)
    have hv := mver_yes a b c d W ha hb hc hd
    rw [show (((a.toNat - 48 : Nat) : Int)) = (a.toNat : Int) - 48 from by omega] at hv
    exact hv

set_option maxHeartbeats 800000 in
theorem mturns_far (s : ByteArray) (n : Int) (w : World) (hs : 100 < s.size) :
    Calls Try.prog 4 #[.string s, .int .i64 n] w fun e w' => e = .returned (.bool true) ∧ Below w.heap.size w w' := by
  have HA := Lib.hid mwake_any
  have hd : decide ((100 : Int) < (s.size : Int)) = true := by simp; omega
  clear hs
  go_enter Try.func4, Try.ntmps4
  go_wp2_with fail
  refine (HA.out _).mono ?_
  rintro e w1 ⟨rfl, hb1⟩
  go_wp2_with fail
  refine (HA.out _).mono ?_
  rintro e w2 ⟨rfl, hb2⟩
  go_wp2
  go_ret
  exact ⟨rfl, hbt hb1 hb2⟩
set_option maxHeartbeats 1600000 in
theorem mturns_range (s : ByteArray) (n : Int) (r : Bool) (w : World) (hs : s.size ≤ 100) (hr : mtiB s.data.toList = r) (hn : n ≤ 9223372036854775807) (h : n < 0 ∨ 9 < n) :
    Calls Try.prog 4 #[.string s, .int .i64 n] w fun e w' => e = .returned (.bool true) ∧ Below w.heap.size w w' := by
  have HA := Lib.hid mwake_any
  have HW := Lib.hid (fun W => mwith_range s n W hn h)
  have HRR := Lib.hid (fun W => mrefRight_any s W (by unfold maxLen; omega))
  rw [hr] at HRR
  have hd : decide ((100 : Int) < (s.size : Int)) = false := by simp; omega
  clear hs hr
  cases r
  · clear h
    go_enter Try.func4, Try.ntmps4
    go_wp2_with fail
    refine (HA.out _).mono ?_
    rintro e w1 ⟨rfl, hb1⟩
    go_wp2_with fail
    refine (HW.out _).mono ?_
    rintro e w2 ⟨rfl, hb2⟩
    go_wp2_with fail
    refine (HRR.out _).mono ?_
    rintro e w3 ⟨rfl, rfl⟩
    go_wp2
    go_ret
    exact ⟨rfl, hbt hb1 hb2⟩
  · by_cases h0 : n < 0
    · have t0 : decide (n < 0) = true := by simpa using h0
      clear h h0
      go_enter Try.func4, Try.ntmps4
      go_wp2_with fail
      refine (HA.out _).mono ?_
      rintro e w1 ⟨rfl, hb1⟩
      go_wp2_with fail
      refine (HW.out _).mono ?_
      rintro e w2 ⟨rfl, hb2⟩
      go_wp2_with fail
      refine (HRR.out _).mono ?_
      rintro e w3 ⟨rfl, rfl⟩
      go_wp2
      go_ret
      exact ⟨rfl, hbt hb1 hb2⟩
    · have t0 : decide (n < 0) = false := by simpa using h0
      have t9 : decide (9 < n) = true := by simp; omega
      clear h h0
      go_enter Try.func4, Try.ntmps4
      go_wp2_with fail
      refine (HA.out _).mono ?_
      rintro e w1 ⟨rfl, hb1⟩
      go_wp2_with fail
      refine (HW.out _).mono ?_
      rintro e w2 ⟨rfl, hb2⟩
      go_wp2_with fail
      refine (HRR.out _).mono ?_
      rintro e w3 ⟨rfl, rfl⟩
      go_wp2
      go_ret
      exact ⟨rfl, hbt hb1 hb2⟩
set_option maxHeartbeats 1600000 in
theorem mturns_no (s : ByteArray) (n : Nat) (w : World) (hs : s.size ≤ 100) (h : mtiB s.data.toList = false) (hn : n < 10) :
    Calls Try.prog 4 #[.string s, .int .i64 (n : Int)] w fun e w' => e = .returned (.bool true) ∧ Below w.heap.size w w' := by
  have HA := Lib.hid mwake_any
  have HW := Lib.hid (fun W => mwith_no s n W hn h)
  have HRR := Lib.hid (fun W => mrefRight_any s W (by unfold maxLen; omega))
  rw [h] at HRR
  have hd : decide ((100 : Int) < (s.size : Int)) = false := by simp; omega
  clear hs h hn
  go_enter Try.func4, Try.ntmps4
  go_wp2_with fail
  refine (HA.out _).mono ?_
  rintro e w1 ⟨rfl, hb1⟩
  go_wp2_with fail
  refine (HW.out _).mono ?_
  rintro e w2 ⟨rfl, hb2⟩
  go_wp2_with fail
  refine (HRR.out _).mono ?_
  rintro e w3 ⟨rfl, rfl⟩
  go_wp2
  go_ret
  exact ⟨rfl, hbt hb1 hb2⟩
set_option maxHeartbeats 1600000 in
theorem mturns_yes (s t : ByteArray) (n : Nat) (r : Bool) (w : World) (hs : s.size ≤ 100) (h : mtiB s.data.toList = true) (hn : n < 10)
    (hr : askB s.data.toList = r) (hr2 : askB t.data.toList = r)
    (hw : ∀ W, Calls Try.prog 13 #[.string s, .int .i64 (n : Int)] W fun e w' => e = .returned (.tuple #[.string t, .bool true]) ∧ Below W.heap.size W w')
    (hrw : ∀ W, Calls Try.prog 14 #[.string s, .int .i64 (n : Int)] W fun e w' => e = .returned (.string t) ∧ Below W.heap.size W w')
    (hv : ∀ W, Calls Try.prog 8 #[.string t] W fun e w' => e = .returned (.tuple #[.int .i64 (n : Int), .bool true]) ∧ Below W.heap.size W w') :
    Calls Try.prog 4 #[.string s, .int .i64 (n : Int)] w fun e w' => e = .returned (.bool true) ∧ Below w.heap.size w w' := by
  have HA := Lib.hid mwake_any
  have HW := Lib.hid hw
  have HRW := Lib.hid hrw
  have HV := Lib.hid hv
  have HRR := Lib.hid (fun W => mrefRight_any s W (by unfold maxLen; omega))
  have HQ := Lib.hid (mreq_any s)
  have HQ2 := Lib.hid (mreq_any t)
  rw [h] at HRR
  rw [hr] at HQ
  rw [hr2] at HQ2
  have hd : decide ((100 : Int) < (s.size : Int)) = false := by simp; omega
  have t0 : decide ((n : Int) < 0) = false := by simp
  have t9 : decide ((9 : Int) < (n : Int)) = false := by simp; omega
  clear hs h hn hr hr2 hw hrw hv
  go_enter Try.func4, Try.ntmps4
  go_wp2_with fail
  refine (HA.out _).mono ?_
  rintro e w1 ⟨rfl, hb1⟩
  go_wp2_with fail
  refine (HW.out _).mono ?_
  rintro e w2 ⟨rfl, hb2⟩
  go_wp2_with fail
  refine (HRR.out _).mono ?_
  rintro e w3 ⟨rfl, rfl⟩
  go_wp2_with fail
  refine (HV.out _).mono ?_
  rintro e w4 ⟨rfl, hb4⟩
  go_wp2_with fail
  refine (HRW.out _).mono ?_
  rintro e w5 ⟨rfl, hb5⟩
  go_wp2_with fail
  refine (HQ2.out _).mono ?_
  rintro e w6 ⟨rfl, hb6⟩
  go_wp2_with fail
  refine (HQ.out _).mono ?_
  rintro e w7 ⟨rfl, hb7⟩
  go_wp2
  go_ret
  exact ⟨by simp, hbt (hbt (hbt (hbt (hbt hb1 hb2) hb4) hb5) hb6) hb7⟩
theorem mturns_walk (s : ByteArray) (n : Int) (w : World) (_hm : s.size ≤ maxLen) (_h1 : -9223372036854775808 ≤ n) (h2 : n ≤ 9223372036854775807) :
    Calls Try.prog 4 #[.string s, .int .i64 n] w fun e w' => e = .returned (.bool true) ∧ Below w.heap.size w w' := by
  by_cases hs : 100 < s.size
  · exact mturns_far s n w hs
  by_cases hn : n < 0 ∨ 9 < n
  · exact mturns_range s n _ w (by omega) rfl h2 hn
  obtain ⟨n, rfl⟩ := Int.eq_ofNat_of_zero_le (show 0 ≤ n by omega)
  have hn' : n < 10 := by omega
  cases h : mtiB s.data.toList
  · exact mturns_no s n w (by omega) h hn'
  · obtain ⟨a, b, c, d, rfl, ha, hb, hc, hd⟩ := mti_of h
    obtain ⟨_, _, hg, hv⟩ := put_one hn'
    refine mturns_yes _ (T4 (dg n) b c d) n _ w (by omega) h hn' rfl ?_ (fun W => mwith_yes a b c d n W hn' ha hb hc hd) (fun W => mrefWith_yes a b c d n W hn') (fun W => ?_)
    · rw [ask_T4, ask_T4, hg, ha]
    · have hh := mver_yes (dg n) b c d W hg hb hc hd
      rw [hv] at hh
      exact hh

set_option maxHeartbeats 800000 in
theorem mresps_far (s : ByteArray) (w : World) (hs : 100 < s.size) :
    Calls Try.prog 5 #[.string s] w fun e w' => e = .returned (.bool true) ∧ Below w.heap.size w w' := by
  have HA := Lib.hid mwake_any
  have hd : decide ((100 : Int) < (s.size : Int)) = true := by simp; omega
  clear hs
  go_enter Try.func5, Try.ntmps5
  go_wp2_with fail
  refine (HA.out _).mono ?_
  rintro e w1 ⟨rfl, hb1⟩
  go_wp2_with fail
  refine (HA.out _).mono ?_
  rintro e w2 ⟨rfl, hb2⟩
  go_wp2
  go_ret
  exact ⟨rfl, hbt hb1 hb2⟩
set_option maxHeartbeats 1600000 in
theorem mresps_no (s : ByteArray) (w : World) (hs : s.size ≤ 100) (h : askB s.data.toList = false) :
    Calls Try.prog 5 #[.string s] w fun e w' => e = .returned (.bool true) ∧ Below w.heap.size w w' := by
  have HA := Lib.hid mwake_any
  have HP := Lib.hid (fun W => mresp_no s W h)
  have HRQ := Lib.hid (fun W => mrefReq_any s W (by unfold maxLen; omega))
  rw [h] at HRQ
  have hd : decide ((100 : Int) < (s.size : Int)) = false := by simp; omega
  clear hs h
  go_enter Try.func5, Try.ntmps5
  go_wp2_with fail
  refine (HA.out _).mono ?_
  rintro e w1 ⟨rfl, hb1⟩
  go_wp2_with fail
  refine (HP.out _).mono ?_
  rintro e w2 ⟨rfl, hb2⟩
  go_wp2_with fail
  refine (HRQ.out _).mono ?_
  rintro e w3 ⟨rfl, rfl⟩
  go_wp2
  go_ret
  exact ⟨rfl, hbt hb1 hb2⟩
set_option maxHeartbeats 1600000 in
theorem mresps_yes (s t : ByteArray) (w : World) (hs : s.size ≤ 100) (h : askB s.data.toList = true)
    (ht : mtiB t.data.toList = true) (ht2 : askB t.data.toList = false)
    (hp : ∀ W, Calls Try.prog 15 #[.string s] W fun e w' => e = .returned (.tuple #[.string t, .bool true]) ∧ Below W.heap.size W w')
    (hrp : ∀ W, Calls Try.prog 16 #[.string s] W fun e w' => e = .returned (.string t) ∧ Below W.heap.size W w') :
    Calls Try.prog 5 #[.string s] w fun e w' => e = .returned (.bool true) ∧ Below w.heap.size w w' := by
  have HA := Lib.hid mwake_any
  have HP := Lib.hid hp
  have HRP := Lib.hid hrp
  have HRQ := Lib.hid (fun W => mrefReq_any s W (by unfold maxLen; omega))
  have HR := Lib.hid (mright_any t)
  have HQ := Lib.hid (mreq_any t)
  rw [h] at HRQ
  rw [ht] at HR
  rw [ht2] at HQ
  have hd : decide ((100 : Int) < (s.size : Int)) = false := by simp; omega
  clear hs h ht ht2 hp hrp
  go_enter Try.func5, Try.ntmps5
  go_wp2_with fail
  refine (HA.out _).mono ?_
  rintro e w1 ⟨rfl, hb1⟩
  go_wp2_with fail
  refine (HP.out _).mono ?_
  rintro e w2 ⟨rfl, hb2⟩
  go_wp2_with fail
  refine (HRQ.out _).mono ?_
  rintro e w3 ⟨rfl, rfl⟩
  go_wp2_with fail
  refine (HRP.out _).mono ?_
  rintro e w4 ⟨rfl, hb4⟩
  go_wp2_with fail
  refine (HR.out _).mono ?_
  rintro e w5 ⟨rfl, hb5⟩
  go_wp2_with fail
  refine (HQ.out _).mono ?_
  rintro e w6 ⟨rfl, hb6⟩
  go_wp2
  go_ret
  exact ⟨rfl, hbt (hbt (hbt (hbt hb1 hb2) hb4) hb5) hb6⟩
theorem ask_next {a b c d : UInt8} (hc : c = 48 ∨ c = 50) : askB (T4 a b (c + 1) d).data.toList = false := by
  rw [ask_T4]
  have e : (c + 1 == 48 || c + 1 == 50) = false := by rcases hc with rfl | rfl <;> rfl
  rw [e, Bool.and_false]
theorem mti_next {a b c d : UInt8} (ha : isD a = true) (hb : isD b = true) (hc : c = 48 ∨ c = 50) (hd : isD d = true) : mtiB (T4 a b (c + 1) d).data.toList = true := by
  rw [mti_T4, ha, hb, hd, (num_next ha hb hc hd).2.1]
  rfl
theorem mresps_walk (s : ByteArray) (w : World) (_hm : s.size ≤ maxLen) :
    Calls Try.prog 5 #[.string s] w fun e w' => e = .returned (.bool true) ∧ Below w.heap.size w w' := by
  by_cases hs : 100 < s.size
  · exact mresps_far s w hs
  cases h : askB s.data.toList
  · exact mresps_no s w (by omega) h
  · obtain ⟨a, b, c, d, rfl, ha, hb, hc, hd⟩ := ask_of h
    exact mresps_yes _ _ w (by omega) h (mti_next ha hb hc hd) (ask_next hc) (fun W => mresp_yes a b c d W ha hb hc hd) (fun W => mrefResp_yes a b c d W ha hb hc hd)

end Go.Proofs.Ytildjjcepafhmaa
