/-
  What Right, Version, Request and the document's Right and Request answer: for every text, in every world.
-/
import Derived.Test.YtildjjcepafhmaaMtiMath
namespace Go.Proofs.Ytildjjcepafhmaa
open Go.RowKit

set_option maxHeartbeats 800000 in
theorem mright_any (s : ByteArray) (w : World) :
    Calls Try.prog 10 #[.string s] w fun e w' => e = .returned (.bool (mtiB s.data.toList)) ∧ Below w.heap.size w w' := by
  have HA := Lib.hid (all_any s)
  by_cases h : s.size = 4
  · have t : ((s.size : Int) == 4) = true := by simp; omega
    rw [mti_four h]
    generalize allD s.data.toList = r at *
    clear h
    go_enter Try.func10, Try.ntmps10
    go_wp2_with fail
    refine (HA.out _).mono ?_
    rintro e w1 ⟨rfl, hb1⟩
    go_wp2
    go_ret
    exact ⟨rfl, hb1⟩
  · have t : ((s.size : Int) == 4) = false := by simp; omega
    rw [mti_far h]
    clear h HA
    go_enter Try.func10, Try.ntmps10
    go_wp2
    go_ret
    exact ⟨rfl, Below.refl _ _⟩

set_option maxHeartbeats 800000 in
theorem mrefRight_any (s : ByteArray) (w : World) (hm : s.size ≤ maxLen) :
    Calls Try.prog 9 #[.string s] w fun e w' => e = .returned (.bool (mtiB s.data.toList)) ∧ w = w' := by
  have HA := Lib.hid (fun W => refAll_any s W hm)
  unfold maxLen at hm
  by_cases h : s.size = 4
  · have t : ((s.size : Int) == 4) = true := by simp; omega
    rw [mti_four h]
    generalize allD s.data.toList = r at *
    clear h
    go_enter Try.func9, Try.ntmps9
    go_wp2_with fail
    refine (HA.out _).mono ?_
    rintro e w1 ⟨rfl, rfl⟩
    go_wp2
    go_ret
    exact ⟨rfl, rfl⟩
  · have t : ((s.size : Int) == 4) = false := by simp; omega
    rw [mti_far h]
    clear h HA
    go_enter Try.func9, Try.ntmps9
    go_wp2
    go_ret
    exact ⟨rfl, rfl⟩

theorem ans_0 (w : World) : Calls Try.prog 20 #[.int .u8 48] w fun e w' => e = .returned (.string ⟨#[49]⟩) ∧ w = w' := by
  go_enter Try.func20, Try.ntmps20
  go_wp2
  go_ret
  exact ⟨rfl, rfl⟩
theorem ans_2 (w : World) : Calls Try.prog 20 #[.int .u8 50] w fun e w' => e = .returned (.string ⟨#[51]⟩) ∧ w = w' := by
  go_enter Try.func20, Try.ntmps20
  go_wp2
  go_ret
  exact ⟨rfl, rfl⟩
theorem ans_no (c : Int) (h0 : (c == 48) = false) (h2 : (c == 50) = false) (w : World) : Calls Try.prog 20 #[.int .u8 c] w fun e w' => e = .returned (.string ⟨#[]⟩) ∧ w = w' := by
  go_enter Try.func20, Try.ntmps20
  go_wp2
  go_ret
  exact ⟨rfl, rfl⟩
theorem ans_yes (c : UInt8) (h : c = 48 ∨ c = 50) (w : World) : Calls Try.prog 20 #[.int .u8 (c.toNat : Int)] w fun e w' => e = .returned (.string ⟨#[c + 1]⟩) ∧ w = w' := by
  rcases h with rfl | rfl
  · exact ans_0 w
  · exact ans_2 w

/-- The function's byte. -/
theorem ix_T4 (a b c d : UInt8) (w : World) : (Instr.index 9 (.string (T4 a b c d)) (.int .i64 2)).run Try.prog w = .ok (.int .u8 ((c.toNat : Nat) : Int)) w := ix_str (T4 a b c d) 2 (by show 2 < 4; omega) w
theorem ix_T4_0 (a b c d : UInt8) (w : World) : (Instr.index 9 (.string (T4 a b c d)) (.int .i64 0)).run Try.prog w = .ok (.int .u8 ((a.toNat : Nat) : Int)) w := ix_str (T4 a b c d) 0 (by show 0 < 4; omega) w

set_option maxHeartbeats 800000 in
theorem mreq_far (s : ByteArray) (w : World) (h : mtiB s.data.toList = false) :
    Calls Try.prog 11 #[.string s] w fun e w' => e = .returned (.bool false) ∧ Below w.heap.size w w' := by
  have HR := Lib.hid (mright_any s)
  rw [h] at HR
  clear h
  go_enter Try.func11, Try.ntmps11
  go_wp2_with fail
  refine (HR.out _).mono ?_
  rintro e w1 ⟨rfl, hb1⟩
  go_wp2
  go_ret
  exact ⟨rfl, hb1⟩
set_option maxHeartbeats 800000 in
theorem mreq_no (s : ByteArray) (c : Nat) (w : World) (h : mtiB s.data.toList = true) (h0 : ((c : Int) == 48) = false) (h2 : ((c : Int) == 50) = false)
    (hix : ∀ W, (Instr.index 9 (.string s) (.int .i64 2)).run Try.prog W = .ok (.int .u8 (c : Int)) W) :
    Calls Try.prog 11 #[.string s] w fun e w' => e = .returned (.bool false) ∧ Below w.heap.size w w' := by
  have HR := Lib.hid (mright_any s)
  have HA := Lib.hid (ans_no (c : Int) h0 h2)
  rw [h] at HR
  clear h h0 h2
  go_enter Try.func11, Try.ntmps11
  go_wp2_with fail
  refine (HR.out _).mono ?_
  rintro e w1 ⟨rfl, hb1⟩
  go_wp2_with fail
  refine (HA.out _).mono ?_
  rintro e w2 ⟨rfl, rfl⟩
  go_wp2
  go_ret
  exact ⟨rfl, hb1⟩
set_option maxHeartbeats 800000 in
theorem mreq_yes (s : ByteArray) (c : Nat) (e : UInt8) (w : World) (h : mtiB s.data.toList = true)
    (ha : ∀ W, Calls Try.prog 20 #[.int .u8 (c : Int)] W fun x w' => x = .returned (.string ⟨#[e]⟩) ∧ W = w')
    (hix : ∀ W, (Instr.index 9 (.string s) (.int .i64 2)).run Try.prog W = .ok (.int .u8 (c : Int)) W) :
    Calls Try.prog 11 #[.string s] w fun e w' => e = .returned (.bool true) ∧ Below w.heap.size w w' := by
  have HR := Lib.hid (mright_any s)
  have HA := Lib.hid ha
  rw [h] at HR
  clear h ha
  go_enter Try.func11, Try.ntmps11
  go_wp2_with fail
  refine (HR.out _).mono ?_
  rintro e w1 ⟨rfl, hb1⟩
  go_wp2_with fail
  refine (HA.out _).mono ?_
  rintro e w2 ⟨rfl, rfl⟩
  go_wp2
  go_ret
  exact ⟨rfl, hb1⟩
theorem mreq_any (s : ByteArray) (w : World) :
    Calls Try.prog 11 #[.string s] w fun e w' => e = .returned (.bool (askB s.data.toList)) ∧ Below w.heap.size w w' := by
  cases h : mtiB s.data.toList
  · rw [ask_none h]
    exact mreq_far s w h
  · obtain ⟨a, b, c, d, rfl, ha, hb, hc, hd⟩ := mti_of h
    by_cases hq : c = 48 ∨ c = 50
    · have e : askB (T4 a b c d).data.toList = true := by
        rw [ask_T4, ha, hb, hc, hd]
        rcases hq with rfl | rfl <;> rfl
      rw [e]
      exact mreq_yes _ c.toNat _ w h (ans_yes c hq) (ix_T4 a b c d)
    · obtain ⟨q0, q2⟩ := not_or.1 hq
      have e : askB (T4 a b c d).data.toList = false := by
        rw [ask_T4]
        simp [q0, q2]
      rw [e]
      refine mreq_no _ c.toNat w h ?_ ?_ (ix_T4 a b c d)
      · rw [beq_eq_false_iff_ne]
        intro g
        exact q0 (UInt8.toNat_inj.1 (show c.toNat = 48 by omega))
      · rw [beq_eq_false_iff_ne]
        intro g
        exact q2 (UInt8.toNat_inj.1 (show c.toNat = 50 by omega))

set_option maxHeartbeats 800000 in
theorem mver_no (s : ByteArray) (w : World) (h : mtiB s.data.toList = false) :
    Calls Try.prog 8 #[.string s] w fun e w' => e = .returned (.tuple #[.int .i64 0, .bool false]) ∧ Below w.heap.size w w' := by
  have HR := Lib.hid (mright_any s)
  rw [h] at HR
  clear h
  go_enter Try.func8, Try.ntmps8
  go_wp2_with fail
  refine (HR.out _).mono ?_
  rintro e w1 ⟨rfl, hb1⟩
  go_wp2
  go_ret2
  exact ⟨rfl, hb1⟩
set_option maxHeartbeats 800000 in
theorem mver_w (s : ByteArray) (n : Nat) (w : World) (h4 : s.size = 4) (h : mtiB s.data.toList = true)
    (hg : ∀ W, Calls Try.prog 17 #[.string (s.extract 0 1)] W fun e w' => e = .returned (.tuple #[.int .i64 (n : Int), .bool true]) ∧ Below W.heap.size W w') :
    Calls Try.prog 8 #[.string s] w fun e w' => e = .returned (.tuple #[.int .i64 (n : Int), .bool true]) ∧ Below w.heap.size w w' := by
  have HR := Lib.hid (mright_any s)
  have HG := Lib.hid hg
  rw [h] at HR
  clear h hg
  go_enter Try.func8, Try.ntmps8
  go_wp2_with fail
  refine (HR.out _).mono ?_
  rintro e w1 ⟨rfl, hb1⟩
  go_wp2_with fail
  refine (HG.out _).mono ?_
  rintro e w2 ⟨rfl, hb2⟩
  go_wp2
  go_ret2
  exact ⟨rfl, hbt hb1 hb2⟩
theorem mver_yes (a b c d : UInt8) (w : World) (ha : isD a = true) (hb : isD b = true) (hc : isD c = true) (hd : isD d = true) :
    Calls Try.prog 8 #[.string (T4 a b c d)] w fun e w' => e = .returned (.tuple #[.int .i64 ((a.toNat - 48 : Nat) : Int), .bool true]) ∧ Below w.heap.size w w' := by
  refine mver_w _ _ w rfl (by rw [mti_T4, ha, hb, hc, hd]; rfl) fun W => ?_
  rw [T4_head]
  have h := get_yes ⟨#[a]⟩ W (by show 1 ≤ 1; omega) (by show 1 ≤ 18; omega) (by simp [allD, ha])
  rw [show numL (ByteArray.mk #[a]).data.toList = a.toNat - 48 from get_first a] at h
  exact h

set_option maxHeartbeats 800000 in
theorem mrefReq_no (s : ByteArray) (n : Int) (w : World) (q : Bool) (hq : q = true → s.size ≠ 4)
    (hg : ∀ W, Calls Try.prog 21 #[.string s] W fun e w' => e = .returned (.tuple #[.int .i64 n, .bool q]) ∧ W = w') :
    Calls Try.prog 12 #[.string s] w fun e w' => e = .returned (.bool false) ∧ w = w' := by
  have HG := Lib.hid hg
  clear hg
  cases q
  · clear hq
    go_enter Try.func12, Try.ntmps12
    go_wp2_with fail
    refine (HG.out _).mono ?_
    rintro e w1 ⟨rfl, rfl⟩
    go_wp2
    go_ret
    exact ⟨rfl, rfl⟩
  · have t : ((s.size : Int) == 4) = false := by have := hq rfl; simp; omega
    clear hq
    go_enter Try.func12, Try.ntmps12
    go_wp2_with fail
    refine (HG.out _).mono ?_
    rintro e w1 ⟨rfl, rfl⟩
    go_wp2
    go_ret
    exact ⟨rfl, rfl⟩
set_option maxHeartbeats 800000 in
theorem mrefReq_yes (s : ByteArray) (n : Nat) (w : World) (h4 : s.size = 4) (hn : n ≤ 10000)
    (hg : ∀ W, Calls Try.prog 21 #[.string s] W fun e w' => e = .returned (.tuple #[.int .i64 (n : Int), .bool true]) ∧ W = w') :
    Calls Try.prog 12 #[.string s] w fun e w' => e = .returned (.bool (n / 10 % 10 == 0 || n / 10 % 10 == 2)) ∧ w = w' := by
  have HG := Lib.hid hg
  have t : ((s.size : Int) == 4) = true := by simp; omega
  clear hg
  by_cases h0 : n / 10 % 10 = 0
  · rw [h0]
    have t0 : ((n : Int) / 10 % 10 == 0) = true := by simp; omega
    clear h0
    go_enter Try.func12, Try.ntmps12
    go_wp2_with fail
    refine (HG.out _).mono ?_
    rintro e w1 ⟨rfl, rfl⟩
    go_wp2
    go_ret
    exact ⟨rfl, rfl⟩
  · have t0 : ((n : Int) / 10 % 10 == 0) = false := by simp; omega
    by_cases h2 : n / 10 % 10 = 2
    · rw [h2]
      have t2 : ((n : Int) / 10 % 10 == 2) = true := by simp; omega
      clear h0 h2
      go_enter Try.func12, Try.ntmps12
      go_wp2_with fail
      refine (HG.out _).mono ?_
      rintro e w1 ⟨rfl, rfl⟩
      go_wp2
      go_ret
      exact ⟨rfl, rfl⟩
    · have t2 : ((n : Int) / 10 % 10 == 2) = false := by simp; omega
      rw [show (n / 10 % 10 == 0 || n / 10 % 10 == 2) = false from by simp [h0, h2]]
      clear h0 h2
      go_enter Try.func12, Try.ntmps12
      go_wp2_with fail
      refine (HG.out _).mono ?_
      rintro e w1 ⟨rfl, rfl⟩
      go_wp2
      go_ret
      exact ⟨rfl, rfl⟩
theorem mrefReq_any (s : ByteArray) (w : World) (hm : s.size ≤ maxLen) :
    Calls Try.prog 12 #[.string s] w fun e w' => e = .returned (.bool (askB s.data.toList)) ∧ w = w' := by
  cases h : mtiB s.data.toList
  · rw [ask_none h]
    refine mrefReq_no s (getN s.data.toList) w (getB s.data.toList) ?_ (fun W => refGet_any s W hm)
    intro g h4
    have h3 : allD s.data.toList = true := by
      simp only [getB, Bool.and_eq_true] at g
      exact g.2
    rw [mti_four h4, h3] at h
    cases h
  · obtain ⟨a, b, c, d, rfl, ha, hb, hc, hd⟩ := mti_of h
    obtain ⟨_, h2, h3⟩ := num_T4 ha hb hc hd
    have h1 := mrefReq_yes (T4 a b c d) (numL [a, b, c, d]) w rfl (by omega) (fun W => refGet_yes (T4 a b c d) W (by show 1 ≤ 4; omega) (by show 4 ≤ 18; omega) (mti_all h))
    rw [h2] at h1
    have e : (c.toNat - 48 == 0 || c.toNat - 48 == 2) = askB (T4 a b c d).data.toList := by
      have g := (isD_iff c).1 hc
      rw [ask_T4, ha, hb, hc, hd, Bool.eq_iff_iff]
      simp
      rw [← UInt8.toNat_inj, ← UInt8.toNat_inj (b := 50), show (48 : UInt8).toNat = 48 from rfl, show (50 : UInt8).toNat = 50 from rfl]
      omega
    rw [e] at h1
    exact h1

end Go.Proofs.Ytildjjcepafhmaa
