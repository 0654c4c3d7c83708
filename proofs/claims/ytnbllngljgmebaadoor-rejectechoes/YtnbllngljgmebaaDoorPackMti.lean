/-
  Texts of one family, laid together: MtiMath, MtiSmall, MtiTurn.
-/
import Derived.Test.YtnbllngljgmebaaDoorPackDig
import Derived.Test.YtnbllngljgmebaaDoorPackBase

/-
  Plain facts on texts of four digits; nothing of the program.
-/
namespace Go.Proofs.YtnbllngljgmebaaDoor
open Go.RowKit

/-- A text of four bytes. -/
def T4 (a b c d : UInt8) : ByteArray := ⟨#[a, b, c, d]⟩
theorem T4_list (a b c d : UInt8) : (T4 a b c d).data.toList = [a, b, c, d] := rfl
theorem T4_size (a b c d : UInt8) : (T4 a b c d).size = 4 := rfl
theorem T4_of (s : ByteArray) (h : s.size = 4) : ∃ a b c d, s = T4 a b c d := by
  obtain ⟨⟨l⟩⟩ := s
  have hl : l.length = 4 := h
  match l, hl with
  | [a, b, c, d], _ => exact ⟨a, b, c, d, rfl⟩
theorem T4_inj {a b c d a' b' c' d' : UInt8} (h : T4 a b c d = T4 a' b' c' d') : a = a' ∧ b = b' ∧ c = c' ∧ d = d' := by
  have h := congrArg (fun s : ByteArray => s.data.toList) h
  simpa [T4] using h

def mtiB (l : List UInt8) : Bool := decide (l.length = 4) && allD l
def askB (l : List UInt8) : Bool := mtiB l && (l[2]? == some 48 || l[2]? == some 50)

theorem mti_far {s : ByteArray} (h : s.size ≠ 4) : mtiB s.data.toList = false := by
  have hl : s.data.toList.length ≠ 4 := by
    rw [show s.data.toList.length = s.size from by simp]
    exact h
  simp only [mtiB, decide_eq_false hl, Bool.false_and]
theorem mti_four {s : ByteArray} (h : s.size = 4) : mtiB s.data.toList = allD s.data.toList := by
  have hl : s.data.toList.length = 4 := by
    rw [show s.data.toList.length = s.size from by simp]
    exact h
  simp only [mtiB, decide_eq_true hl, Bool.true_and]
theorem mti_size {s : ByteArray} (h : mtiB s.data.toList = true) : s.size = 4 := by
  by_cases g : s.size = 4
  · exact g
  · rw [mti_far g] at h; cases h
theorem mti_all {s : ByteArray} (h : mtiB s.data.toList = true) : allD s.data.toList = true := by
  rw [← mti_four (mti_size h)]; exact h
theorem mti_T4 (a b c d : UInt8) : mtiB (T4 a b c d).data.toList = (isD a && (isD b && (isD c && isD d))) := by
  simp [mtiB, T4, allD]
theorem ask_T4 (a b c d : UInt8) : askB (T4 a b c d).data.toList = ((isD a && (isD b && (isD c && isD d))) && (c == 48 || c == 50)) := by
  rw [askB, mti_T4]
  simp [T4]
theorem mti_of {s : ByteArray} (h : mtiB s.data.toList = true) : ∃ a b c d, s = T4 a b c d ∧ isD a = true ∧ isD b = true ∧ isD c = true ∧ isD d = true := by
  obtain ⟨a, b, c, d, rfl⟩ := T4_of s (mti_size h)
  rw [mti_T4] at h
  simp only [Bool.and_eq_true] at h
  exact ⟨a, b, c, d, rfl, h⟩
theorem ask_mti {l : List UInt8} (h : askB l = true) : mtiB l = true := by
  unfold askB at h
  simp only [Bool.and_eq_true] at h
  exact h.1
theorem ask_none {l : List UInt8} (h : mtiB l = false) : askB l = false := by simp [askB, h]
theorem ask_of {s : ByteArray} (h : askB s.data.toList = true) : ∃ a b c d, s = T4 a b c d ∧ isD a = true ∧ isD b = true ∧ (c = 48 ∨ c = 50) ∧ isD d = true := by
  obtain ⟨a, b, c, d, rfl, ha, hb, hc, hd⟩ := mti_of (ask_mti h)
  rw [ask_T4, ha, hb, hc, hd] at h
  simp at h
  exact ⟨a, b, c, d, rfl, ha, hb, h, hd⟩

theorem num_T4 {a b c d : UInt8} (ha : isD a = true) (hb : isD b = true) (hc : isD c = true) (hd : isD d = true) :
    numL [a, b, c, d] = 1000 * (a.toNat - 48) + 100 * (b.toNat - 48) + 10 * (c.toNat - 48) + (d.toNat - 48) ∧ numL [a, b, c, d] / 10 % 10 = c.toNat - 48 ∧ numL [a, b, c, d] < 10000 := by
  rw [isD_iff] at ha hb hc hd
  have e : numL [a, b, c, d] = 1000 * (a.toNat - 48) + 100 * (b.toNat - 48) + 10 * (c.toNat - 48) + (d.toNat - 48) := by
    simp only [numL, List.foldl]
    omega
  refine ⟨e, ?_, ?_⟩
  · rw [e]; omega
  · rw [e]; omega
/-- The answer's number is ten more. -/
theorem num_next {a b c d : UInt8} (ha : isD a = true) (hb : isD b = true) (hc : c = 48 ∨ c = 50) (hd : isD d = true) : numL [a, b, c, d] + 10 = numL [a, b, c + 1, d] ∧ isD (c + 1) = true ∧ isD c = true := by
  have h1 : isD (c + 1) = true ∧ isD c = true ∧ (c + 1).toNat = c.toNat + 1 ∧ 48 ≤ c.toNat := by
    rcases hc with rfl | rfl <;> decide +kernel
  obtain ⟨h1, h0, h2, h3⟩ := h1
  rw [(num_T4 ha hb h0 hd).1, (num_T4 ha hb h1 hd).1]
  refine ⟨by omega, h1, h0⟩
theorem put_next {a b c d : UInt8} (ha : isD a = true) (hb : isD b = true) (hc : c = 48 ∨ c = 50) (hd : isD d = true) :
    putB ((numL [a, b, c, d] : Int) + 10) 4 = true ∧ putS ((numL [a, b, c, d] : Int) + 10) 4 = T4 a b (c + 1) d := by
  obtain ⟨e, h1, _⟩ := num_next ha hb hc hd
  have h2 := (num_T4 ha hb h1 hd).2.2
  rw [show ((numL [a, b, c, d] : Int) + 10) = ((numL [a, b, c + 1, d] : Nat) : Int) from by omega]
  have hp : putB ((numL [a, b, c + 1, d] : Nat) : Int) 4 = true := putB_mk (by omega) (by omega) (by omega) (by
    rw [Int.toNat_natCast]
    exact Nat.div_eq_of_lt h2)
  refine ⟨hp, ?_⟩
  rw [putS_yes hp]
  have h3 := putL_numL [a, b, c + 1, d] (by simp [allD, ha, hb, h1, hd])
  rw [Int.toNat_natCast]
  exact congrArg (fun l : List UInt8 => (⟨l.toArray⟩ : ByteArray)) h3
/-- One digit. -/
theorem put_one {n : Nat} (h : n < 10) : putB (n : Int) 1 = true ∧ putS (n : Int) 1 = ⟨#[dg n]⟩ ∧ isD (dg n) = true ∧ (dg n).toNat - 48 = n := by
  have hp : putB (n : Int) 1 = true := putB_mk (by omega) (by omega) (by omega) (by
    rw [Int.toNat_natCast]
    exact Nat.div_eq_of_lt h)
  refine ⟨hp, ?_, isD_dg n, ?_⟩
  · rw [putS_yes hp]; rfl
  · rw [dg_toNat]; omega
theorem put_other {n : Int} (h : n < 0 ∨ 9 < n) : putB n 1 = false := by
  rcases h with h | h
  · exact putB_no (Or.inl h)
  · refine putB_no (Or.inr (Or.inr (Or.inr ⟨by omega, ?_⟩)))
    show 0 < n.toNat / 10
    omega
theorem get_first (a : UInt8) : numL [a] = a.toNat - 48 := by simp [numL]
theorem T4_head (a b c d : UInt8) : (T4 a b c d).extract 0 1 = ⟨#[a]⟩ := rfl
theorem T4_tail (a b c d e : UInt8) : (⟨#[e]⟩ : ByteArray) ++ (T4 a b c d).extract 1 4 = T4 e b c d := rfl
theorem T4_mid (a b c d e : UInt8) : ((T4 a b c d).extract 0 2 ++ (⟨#[e]⟩ : ByteArray)) ++ (T4 a b c d).extract 3 4 = T4 a b e d := rfl

end Go.Proofs.YtnbllngljgmebaaDoor

/-
  What Right, Version, Request and the document's Right and Request answer: for every text, in every world.
-/
namespace Go.Proofs.YtnbllngljgmebaaDoor
open Go.RowKit

set_option maxRecDepth 100000 in
set_option maxHeartbeats 800000 in
theorem mright_any (s : ByteArray) (w : World) :
    Calls Tryd.prog 45 #[.string s] w fun e w' => e = .returned (.bool (mtiB s.data.toList)) ∧ Below w.heap.size w w' := by
  have HA := Lib.hid (all_any s)
  by_cases h : s.size = 4
  · have t : ((s.size : Int) == 4) = true := by simp; omega
    rw [mti_four h]
    generalize allD s.data.toList = r at *
    clear h
    go_enter Tryd.func45, Tryd.ntmps45
    go_wp2_with fail
    refine (HA.out _).mono ?_
    rintro e w1 ⟨rfl, hb1⟩
    go_wp2
    go_ret
    exact ⟨rfl, hb1⟩
  · have t : ((s.size : Int) == 4) = false := by simp; omega
    rw [mti_far h]
    clear h HA
    go_enter Tryd.func45, Tryd.ntmps45
    go_wp2
    go_ret
    exact ⟨rfl, Below.refl _ _⟩

set_option maxRecDepth 100000 in
set_option maxHeartbeats 800000 in
theorem mrefRight_any (s : ByteArray) (w : World) (hm : s.size ≤ maxLen) :
    Calls Tryd.prog 44 #[.string s] w fun e w' => e = .returned (.bool (mtiB s.data.toList)) ∧ w = w' := by
  have HA := Lib.hid (fun W => refAll_any s W hm)
  unfold maxLen at hm
  by_cases h : s.size = 4
  · have t : ((s.size : Int) == 4) = true := by simp; omega
    rw [mti_four h]
    generalize allD s.data.toList = r at *
    clear h
    go_enter Tryd.func44, Tryd.ntmps44
    go_wp2_with fail
    refine (HA.out _).mono ?_
    rintro e w1 ⟨rfl, rfl⟩
    go_wp2
    go_ret
    exact ⟨rfl, rfl⟩
  · have t : ((s.size : Int) == 4) = false := by simp; omega
    rw [mti_far h]
    clear h HA
    go_enter Tryd.func44, Tryd.ntmps44
    go_wp2
    go_ret
    exact ⟨rfl, rfl⟩

theorem ans_0 (w : World) : Calls Tryd.prog 46 #[.int .u8 48] w fun e w' => e = .returned (.string ⟨#[49]⟩) ∧ w = w' := by
  go_enter Tryd.func46, Tryd.ntmps46
  go_wp2
  go_ret
  exact ⟨rfl, rfl⟩
theorem ans_2 (w : World) : Calls Tryd.prog 46 #[.int .u8 50] w fun e w' => e = .returned (.string ⟨#[51]⟩) ∧ w = w' := by
  go_enter Tryd.func46, Tryd.ntmps46
  go_wp2
  go_ret
  exact ⟨rfl, rfl⟩
theorem ans_no (c : Int) (h0 : (c == 48) = false) (h2 : (c == 50) = false) (w : World) : Calls Tryd.prog 46 #[.int .u8 c] w fun e w' => e = .returned (.string ⟨#[]⟩) ∧ w = w' := by
  go_enter Tryd.func46, Tryd.ntmps46
  go_wp2
  go_ret
  exact ⟨rfl, rfl⟩
theorem ans_yes (c : UInt8) (h : c = 48 ∨ c = 50) (w : World) : Calls Tryd.prog 46 #[.int .u8 (c.toNat : Int)] w fun e w' => e = .returned (.string ⟨#[c + 1]⟩) ∧ w = w' := by
  rcases h with rfl | rfl
  · exact ans_0 w
  · exact ans_2 w

/-- The function's byte. -/
theorem ix_T4 (a b c d : UInt8) (w : World) : (Instr.index 9 (.string (T4 a b c d)) (.int .i64 2)).run Tryd.prog w = .ok (.int .u8 ((c.toNat : Nat) : Int)) w := ix_str (T4 a b c d) 2 (by show 2 < 4; omega) w
theorem ix_T4_0 (a b c d : UInt8) (w : World) : (Instr.index 9 (.string (T4 a b c d)) (.int .i64 0)).run Tryd.prog w = .ok (.int .u8 ((a.toNat : Nat) : Int)) w := ix_str (T4 a b c d) 0 (by show 0 < 4; omega) w

set_option maxRecDepth 100000 in
set_option maxHeartbeats 800000 in
theorem mreq_far (s : ByteArray) (w : World) (h : mtiB s.data.toList = false) :
    Calls Tryd.prog 22 #[.string s] w fun e w' => e = .returned (.bool false) ∧ Below w.heap.size w w' := by
  have HR := Lib.hid (mright_any s)
  rw [h] at HR
  clear h
  go_enter Tryd.func22, Tryd.ntmps22
  go_wp2_with fail
  refine (HR.out _).mono ?_
  rintro e w1 ⟨rfl, hb1⟩
  go_wp2
  go_ret
  exact ⟨rfl, hb1⟩
set_option maxRecDepth 100000 in
set_option maxHeartbeats 800000 in
theorem mreq_no (s : ByteArray) (c : Nat) (w : World) (h : mtiB s.data.toList = true) (h0 : ((c : Int) == 48) = false) (h2 : ((c : Int) == 50) = false)
    (hix : ∀ W, (Instr.index 9 (.string s) (.int .i64 2)).run Tryd.prog W = .ok (.int .u8 (c : Int)) W) :
    Calls Tryd.prog 22 #[.string s] w fun e w' => e = .returned (.bool false) ∧ Below w.heap.size w w' := by
  have HR := Lib.hid (mright_any s)
  have HA := Lib.hid (ans_no (c : Int) h0 h2)
  rw [h] at HR
  clear h h0 h2
  go_enter Tryd.func22, Tryd.ntmps22
  go_wp2_with fail
  refine (HR.out _).mono ?_
  rintro e w1 ⟨rfl, hb1⟩
  go_wp2_with fail
  refine (HA.out _).mono ?_
  rintro e w2 ⟨rfl, rfl⟩
  go_wp2
  go_ret
  exact ⟨rfl, hb1⟩
set_option maxRecDepth 100000 in
set_option maxHeartbeats 800000 in
theorem mreq_yes (s : ByteArray) (c : Nat) (e : UInt8) (w : World) (h : mtiB s.data.toList = true)
    (ha : ∀ W, Calls Tryd.prog 46 #[.int .u8 (c : Int)] W fun x w' => x = .returned (.string ⟨#[e]⟩) ∧ W = w')
    (hix : ∀ W, (Instr.index 9 (.string s) (.int .i64 2)).run Tryd.prog W = .ok (.int .u8 (c : Int)) W) :
    Calls Tryd.prog 22 #[.string s] w fun e w' => e = .returned (.bool true) ∧ Below w.heap.size w w' := by
  have HR := Lib.hid (mright_any s)
  have HA := Lib.hid ha
  rw [h] at HR
  clear h ha
  go_enter Tryd.func22, Tryd.ntmps22
  go_wp2_with fail
  refine (HR.out _).mono ?_
  rintro e w1 ⟨rfl, hb1⟩
  go_wp2_with fail
  refine (HA.out _).mono ?_
  rintro e w2 ⟨rfl, rfl⟩
  go_wp2
  go_ret
  exact ⟨rfl, hb1⟩
theorem mreq_any (s : ByteArray) (w : World) :
    Calls Tryd.prog 22 #[.string s] w fun e w' => e = .returned (.bool (askB s.data.toList)) ∧ Below w.heap.size w w' := by
  cases h : mtiB s.data.toList
  · rw [ask_none h]
    exact mreq_far s w h
  · obtain ⟨a, b, c, d, rfl, ha, hb, hc, hd⟩ := mti_of h
    by_cases hq : c = 48 ∨ c = 50
    · have e : askB (T4 a b c d).data.toList = true := by
        rw [ask_T4, ha, hb, hc, hd]
        rcases hq with rfl | rfl <;> rfl
      rw [e]
      exact mreq_yes _ c.toNat _ w h (ans_yes c hq) (ix_T4 a b c d)
    · obtain ⟨q0, q2⟩ := not_or.1 hq
      have e : askB (T4 a b c d).data.toList = false := by
        rw [ask_T4]
        simp [q0, q2]
      rw [e]
      refine mreq_no _ c.toNat w h ?_ ?_ (ix_T4 a b c d)
      · rw [beq_eq_false_iff_ne]
        intro g
        exact q0 (UInt8.toNat_inj.1 (show c.toNat = 48 by omega))
      · rw [beq_eq_false_iff_ne]
        intro g
        exact q2 (UInt8.toNat_inj.1 (show c.toNat = 50 by omega))

set_option maxRecDepth 100000 in
set_option maxHeartbeats 800000 in
theorem mver_no (s : ByteArray) (w : World) (h : mtiB s.data.toList = false) :
    Calls Tryd.prog 47 #[.string s] w fun e w' => e = .returned (.tuple #[.int .i64 0, .bool false]) ∧ Below w.heap.size w w' := by
  have HR := Lib.hid (mright_any s)
  rw [h] at HR
  clear h
  go_enter Tryd.func47, Tryd.ntmps47
  go_wp2_with fail
  refine (HR.out _).mono ?_
  rintro e w1 ⟨rfl, hb1⟩
  go_wp2
  go_ret2
  exact ⟨rfl, hb1⟩
set_option maxRecDepth 100000 in
set_option maxHeartbeats 800000 in
theorem mver_w (s : ByteArray) (n : Nat) (w : World) (h4 : s.size = 4) (h : mtiB s.data.toList = true)
    (hg : ∀ W, Calls Tryd.prog 67 #[.string (s.extract 0 1)] W fun e w' => e = .returned (.tuple #[.int .i64 (n : Int), .bool true]) ∧ Below W.heap.size W w') :
    Calls Tryd.prog 47 #[.string s] w fun e w' => e = .returned (.tuple #[.int .i64 (n : Int), .bool true]) ∧ Below w.heap.size w w' := by
  have HR := Lib.hid (mright_any s)
  have HG := Lib.hid hg
  rw [h] at HR
  clear h hg
  go_enter Tryd.func47, Tryd.ntmps47
  go_wp2_with fail
  refine (HR.out _).mono ?_
  rintro e w1 ⟨rfl, hb1⟩
  go_wp2_with fail
  refine (HG.out _).mono ?_
  rintro e w2 ⟨rfl, hb2⟩
  go_wp2
  go_ret2
  exact ⟨rfl, hbt hb1 hb2⟩
theorem mver_yes (a b c d : UInt8) (w : World) (ha : isD a = true) (hb : isD b = true) (hc : isD c = true) (hd : isD d = true) :
    Calls Tryd.prog 47 #[.string (T4 a b c d)] w fun e w' => e = .returned (.tuple #[.int .i64 ((a.toNat - 48 : Nat) : Int), .bool true]) ∧ Below w.heap.size w w' := by
  refine mver_w _ _ w rfl (by rw [mti_T4, ha, hb, hc, hd]; rfl) fun W => ?_
  rw [T4_head]
  have h := get_yes ⟨#[a]⟩ W (by show 1 ≤ 1; omega) (by show 1 ≤ 18; omega) (by simp [allD, ha])
  rw [show numL (ByteArray.mk #[a]).data.toList = a.toNat - 48 from get_first a] at h
  exact h

set_option maxRecDepth 100000 in
set_option maxHeartbeats 800000 in
theorem mrefReq_no (s : ByteArray) (n : Int) (w : World) (q : Bool) (hq : q = true → s.size ≠ 4)
    (hg : ∀ W, Calls Tryd.prog 62 #[.string s] W fun e w' => e = .returned (.tuple #[.int .i64 n, .bool q]) ∧ W = w') :
    Calls Tryd.prog 40 #[.string s] w fun e w' => e = .returned (.bool false) ∧ w = w' := by
  have HG := Lib.hid hg
  clear hg
  cases q
  · clear hq
    go_enter Tryd.func40, Tryd.ntmps40
    go_wp2_with fail
    refine (HG.out _).mono ?_
    rintro e w1 ⟨rfl, rfl⟩
    go_wp2
    go_ret
    exact ⟨rfl, rfl⟩
  · have t : ((s.size : Int) == 4) = false := by have := hq rfl; simp; omega
    clear hq
    go_enter Tryd.func40, Tryd.ntmps40
    go_wp2_with fail
    refine (HG.out _).mono ?_
    rintro e w1 ⟨rfl, rfl⟩
    go_wp2
    go_ret
    exact ⟨rfl, rfl⟩
set_option maxRecDepth 100000 in
set_option maxHeartbeats 800000 in
theorem mrefReq_yes (s : ByteArray) (n : Nat) (w : World) (h4 : s.size = 4) (hn : n ≤ 10000)
    (hg : ∀ W, Calls Tryd.prog 62 #[.string s] W fun e w' => e = .returned (.tuple #[.int .i64 (n : Int), .bool true]) ∧ W = w') :
    Calls Tryd.prog 40 #[.string s] w fun e w' => e = .returned (.bool (n / 10 % 10 == 0 || n / 10 % 10 == 2)) ∧ w = w' := by
  have HG := Lib.hid hg
  have t : ((s.size : Int) == 4) = true := by simp; omega
  clear hg
  by_cases h0 : n / 10 % 10 = 0
  · rw [h0]
    have t0 : ((n : Int) / 10 % 10 == 0) = true := by simp; omega
    clear h0
    go_enter Tryd.func40, Tryd.ntmps40
    go_wp2_with fail
    refine (HG.out _).mono ?_
    rintro e w1 ⟨rfl, rfl⟩
    go_wp2
    go_ret
    exact ⟨rfl, rfl⟩
  · have t0 : ((n : Int) / 10 % 10 == 0) = false := by simp; omega
    by_cases h2 : n / 10 % 10 = 2
    · rw [h2]
      have t2 : ((n : Int) / 10 % 10 == 2) = true := by simp; omega
      clear h0 h2
      go_enter Tryd.func40, Tryd.ntmps40
      go_wp2_with fail
      refine (HG.out _).mono ?_
      rintro e w1 ⟨rfl, rfl⟩
      go_wp2
      go_ret
      exact ⟨rfl, rfl⟩
    · have t2 : ((n : Int) / 10 % 10 == 2) = false := by simp; omega
      rw [show (n / 10 % 10 == 0 || n / 10 % 10 == 2) = false from by simp [h0, h2]]
      clear h0 h2
      go_enter Tryd.func40, Tryd.ntmps40
      go_wp2_with fail
      refine (HG.out _).mono ?_
      rintro e w1 ⟨rfl, rfl⟩
      go_wp2
      go_ret
      exact ⟨rfl, rfl⟩
theorem mrefReq_any (s : ByteArray) (w : World) (hm : s.size ≤ maxLen) :
    Calls Tryd.prog 40 #[.string s] w fun e w' => e = .returned (.bool (askB s.data.toList)) ∧ w = w' := by
  cases h : mtiB s.data.toList
  · rw [ask_none h]
    refine mrefReq_no s (getN s.data.toList) w (getB s.data.toList) ?_ (fun W => refGet_any s W hm)
    intro g h4
    have h3 : allD s.data.toList = true := by
      simp only [getB, Bool.and_eq_true] at g
      exact g.2
    rw [mti_four h4, h3] at h
    cases h
  · obtain ⟨a, b, c, d, rfl, ha, hb, hc, hd⟩ := mti_of h
    obtain ⟨_, h2, h3⟩ := num_T4 ha hb hc hd
    have h1 := mrefReq_yes (T4 a b c d) (numL [a, b, c, d]) w rfl (by omega) (fun W => refGet_yes (T4 a b c d) W (by show 1 ≤ 4; omega) (by show 4 ≤ 18; omega) (mti_all h))
    rw [h2] at h1
    have e : (c.toNat - 48 == 0 || c.toNat - 48 == 2) = askB (T4 a b c d).data.toList := by
      have g := (isD_iff c).1 hc
      rw [ask_T4, ha, hb, hc, hd, Bool.eq_iff_iff]
      simp
      rw [← UInt8.toNat_inj, ← UInt8.toNat_inj (b := 50), show (48 : UInt8).toNat = 48 from rfl, show (50 : UInt8).toNat = 50 from rfl]
      omega
    rw [e] at h1
    exact h1

end Go.Proofs.YtnbllngljgmebaaDoor

/-
  What With, Response and the document's With and Response answer: for every text and version, in every world.
-/
namespace Go.Proofs.YtnbllngljgmebaaDoor
open Go.RowKit

theorem add_tail (a b c d e : UInt8) (W : World) : (Op.stringOp .add (⟨#[e]⟩ : ByteArray) ((T4 a b c d).extract 1 (T4 a b c d).size)).run Tryd.prog W = .ok (.string (T4 e b c d)) W :=
  run_string_add_sum W _ _ (by show 1 + 3 ≤ _; omega)


set_option maxRecDepth 100000 in
set_option maxHeartbeats 800000 in
theorem mresp_no (s : ByteArray) (w : World) (h : askB s.data.toList = false) :
    Calls Tryd.prog 37 #[.string s] w fun e w' => e = .returned (.tuple #[.string ⟨#[]⟩, .bool false]) ∧ Below w.heap.size w w' := by
  have HR := Lib.hid (mreq_any s)
  rw [h] at HR
  clear h
  go_enter Tryd.func37, Tryd.ntmps37
  go_wp2_with fail
  refine (HR.out _).mono ?_
  rintro e w1 ⟨rfl, hb1⟩
  go_wp2
  go_ret2
  exact ⟨rfl, hb1⟩
set_option maxRecDepth 100000 in
set_option maxHeartbeats 1600000 in
theorem mresp_w (s x y z : ByteArray) (c : Nat) (w : World) (h4 : s.size = 4) (h : askB s.data.toList = true)
    (ha : ∀ W, Calls Tryd.prog 46 #[.int .u8 (c : Int)] W fun e w' => e = .returned (.string x) ∧ W = w')
    (hix : ∀ W, (Instr.index 9 (.string s) (.int .i64 2)).run Tryd.prog W = .ok (.int .u8 (c : Int)) W)
    (hadd : ∀ W : World, (Op.stringOp .add (s.extract 0 2) x).run Tryd.prog W = .ok (.string y) W)
    (hsum : ∀ W : World, (Op.stringOp .add y (s.extract 3 s.size)).run Tryd.prog W = .ok (.string z) W) :
    Calls Tryd.prog 37 #[.string s] w fun e w' => e = .returned (.tuple #[.string z, .bool true]) ∧ Below w.heap.size w w' := by
  have HR := Lib.hid (mreq_any s)
  rw [h] at HR
  have HA := Lib.hid ha
  have h2 : (2 : Int) ≤ (s.size : Int) := by omega
  have h3 : (3 : Int) ≤ (s.size : Int) := by omega
  clear h ha h4
  go_enter Tryd.func37, Tryd.ntmps37
  go_wp2_with fail
  refine (HR.out _).mono ?_
  rintro e w1 ⟨rfl, hb1⟩
  go_wp2
  refine wp_region_noPanic ?_
  refine wp_region_held_drew (S := fun _ => True) (by kernel_rfl) trivial (fun _ => ?_)
  refine gv 0 (v := ?_) (fun _ _ => ?_) trivial ?_
  rotate_left
  · (go_simp; try (with_reducible rfl))
  try simp only [puts]
  refine gv 1 (v := ?_) (fun _ _ => ?_) trivial ?_
  rotate_left
  · (go_simp; try (with_reducible rfl))
  try simp only [puts]
  refine gv 2 (v := ?_) (fun _ _ => ?_) trivial ?_
  rotate_left
  · (go_simp; try (with_reducible rfl))
  try simp only [puts]
  refine gv 3 (v := ?_) (fun _ _ => ?_) trivial ?_
  rotate_left
  · (go_simp; try (with_reducible rfl))
  try simp only [puts]
  refine give_call (i := 4) 46 #[.int .u8 (c : Int)] rfl (by kernel_rfl) (by kernel_rfl) (by kernel_rfl) (fun _ _ _ h => h) (by rfl) (fun u hu => HA.out _) (fun _ _ => ?_) trivial ?_
  · (go_simp; try (with_reducible rfl))
  try simp only [puts]
  refine gv 5 (v := ?_) (fun _ _ => ?_) trivial ?_
  rotate_left
  · (go_simp; try (with_reducible rfl))
  try simp only [puts]
  refine gv 6 (v := ?_) (fun _ _ => ?_) trivial ?_
  rotate_left
  · (go_simp; try (with_reducible rfl))
  try simp only [puts]
  refine gv 7 (v := ?_) (fun _ _ => ?_) trivial ?_
  rotate_left
  · (go_simp; try (with_reducible rfl))
  try simp only [puts]
  refine gv 8 (v := ?_) (fun _ _ => ?_) trivial ?_
  rotate_left
  · (go_simp; try (with_reducible rfl))
  try simp only [puts]
  refine gv 9 (v := ?_) (fun _ _ => ?_) trivial ?_
  rotate_left
  · (go_simp; try (with_reducible rfl))
  try simp only [puts]
  refine gv 10 (v := ?_) (fun _ _ => ?_) trivial ?_
  rotate_left
  · (go_simp; try (with_reducible rfl))
  try simp only [puts]
  refine wpAnyH_done (by kernel_rfl) (NoPanic.normal ?_) _
  go_wp2
  go_ret2
  exact ⟨rfl, hb1.drew⟩
theorem add_mid1 (a b c d e : UInt8) (W : World) : (Op.stringOp .add ((T4 a b c d).extract 0 2) (⟨#[e]⟩ : ByteArray)).run Tryd.prog W = .ok (.string ⟨#[a, b, e]⟩) W :=
  run_string_add_sum W _ _ (by show 2 + 1 ≤ _; omega)
theorem add_mid2 (a b c d e : UInt8) (W : World) : (Op.stringOp .add (⟨#[a, b, e]⟩ : ByteArray) ((T4 a b c d).extract 3 (T4 a b c d).size)).run Tryd.prog W = .ok (.string (T4 a b e d)) W :=
  run_string_add_sum W _ _ (by show 3 + 1 ≤ _; omega)
theorem mresp_yes (a b c d : UInt8) (w : World) (ha : isD a = true) (hb : isD b = true) (hc : c = 48 ∨ c = 50) (hd : isD d = true) :
    Calls Tryd.prog 37 #[.string (T4 a b c d)] w fun e w' => e = .returned (.tuple #[.string (T4 a b (c + 1) d), .bool true]) ∧ Below w.heap.size w w' := by
  refine mresp_w _ ⟨#[c + 1]⟩ ⟨#[a, b, c + 1]⟩ _ c.toNat w rfl ?_ (ans_yes c hc) (ix_T4 a b c d) (add_mid1 a b c d (c + 1)) (add_mid2 a b c d (c + 1))
  rw [ask_T4, ha, hb, hd]
  rcases hc with rfl | rfl <;> rfl

set_option maxRecDepth 100000 in
set_option maxHeartbeats 800000 in
theorem mrefResp_w (s x : ByteArray) (n : Nat) (w : World) (hn : n < 10000)
    (hg : ∀ W, Calls Tryd.prog 62 #[.string s] W fun e w' => e = .returned (.tuple #[.int .i64 (n : Int), .bool true]) ∧ W = w')
    (hp : ∀ W, Calls Tryd.prog 63 #[.int .i64 ((n : Int) + 10), .int .i64 4] W fun e w' => e = .returned (.tuple #[.string x, .bool true]) ∧ Below W.heap.size W w') :
    Calls Tryd.prog 41 #[.string s] w fun e w' => e = .returned (.string x) ∧ Below w.heap.size w w' := by
  have HG := Lib.hid hg
  have HP := Lib.hid hp
  clear hg hp
  go_enter Tryd.func41, Tryd.ntmps41
  go_wp2_with fail
  refine (HG.out _).mono ?_
  rintro e w1 ⟨rfl, rfl⟩
  go_wp2_with fail
  refine (HP.out _).mono ?_
  rintro e w2 ⟨rfl, hb2⟩
  go_wp2
  go_ret
  exact ⟨rfl, hb2⟩
theorem mrefResp_yes (a b c d : UInt8) (w : World) (ha : isD a = true) (hb : isD b = true) (hc : c = 48 ∨ c = 50) (hd : isD d = true) :
    Calls Tryd.prog 41 #[.string (T4 a b c d)] w fun e w' => e = .returned (.string (T4 a b (c + 1) d)) ∧ Below w.heap.size w w' := by
  have hc' := (num_next ha hb hc hd).2.2
  refine mrefResp_w (T4 a b c d) _ (numL [a, b, c, d]) w (num_T4 ha hb hc' hd).2.2 (fun W => refGet_yes (T4 a b c d) W (by show 1 ≤ 4; omega) (by show 4 ≤ 18; omega) (by rw [T4_list]; simp [allD, ha, hb, hc', hd])) (fun W => ?_)
  have h := refPut_any ((numL [a, b, c, d] : Int) + 10) 4 W (by have := (num_T4 ha hb hc' hd).2.2; omega)
  rw [(put_next ha hb hc hd).1, (put_next ha hb hc hd).2] at h
  exact h

end Go.Proofs.YtnbllngljgmebaaDoor
