/-
  What Get answers: for every text and place, in every world.
-/
import Derived.Test.YtmobillfeldcjaaDoorBerPut
namespace Go.Proofs.YtmobillfeldcjaaDoor
open Go.RowKit

theorem berget_w_place (p : Int) (s : ByteArray) (w : World) (h : p < 0 ∨ (s.size : Int) < p) :
    Calls Tryd.prog 35 #[.string s, .int .i64 p] w fun e w' => e = .returned (.tuple #[.int .i64 0, .int .i64 0, .int .i64 1]) ∧ w = w' := by
  by_cases h0 : p < 0
  · clear h
    go_enter Tryd.func35, Tryd.ntmps35
    go_wp2
    go_ret3
    exact ⟨rfl, rfl⟩
  · have h1 : (s.size : Int) < p := by omega
    have h2 : decide (p < 0) = false := by simp; omega
    clear h h0
    go_enter Tryd.func35, Tryd.ntmps35
    go_wp2
    go_ret3
    exact ⟨rfl, rfl⟩

theorem berget_w_cut (s : ByteArray) (w : World) :
    Calls Tryd.prog 35 #[.string s, .int .i64 (s.size : Int)] w fun e w' => e = .returned (.tuple #[.int .i64 0, .int .i64 0, .int .i64 2]) ∧ w = w' := by
  have h2 : decide ((s.size : Int) < 0) = false := by simp
  go_enter Tryd.func35, Tryd.ntmps35
  go_wp2
  go_ret3
  exact ⟨rfl, rfl⟩

theorem berget_w_one (p a : Nat) (s : ByteArray) (w : World) (hs : s.size ≤ 5000000) (hp : p < s.size) (hix : At s p a) (h : a < 128) :
    Calls Tryd.prog 35 #[.string s, .int .i64 (p : Int)] w fun e w' => e = .returned (.tuple #[.int .i64 (a : Int), .int .i64 ((p + 1 : Nat) : Int), .int .i64 0]) ∧ w = w' := by
  unfold At at hix
  have h2 : decide ((p : Int) < 0) = false := by simp
  have h3 : decide (s.size < p) = false := by simp; omega
  have h4 : ((p : Int) == (s.size : Int)) = false := by simp; omega
  have ha1 : (a : Int) < 128 := by omega
  clear h
  go_enter Tryd.func35, Tryd.ntmps35
  go_wp2
  go_ret3
  exact ⟨rfl, rfl⟩

theorem berget_w_no (p a : Nat) (s : ByteArray) (w : World) (hp : p < s.size) (ha : a < 256) (hix : At s p a) (h : a = 128 ∨ 130 < a) :
    Calls Tryd.prog 35 #[.string s, .int .i64 (p : Int)] w fun e w' => e = .returned (.tuple #[.int .i64 0, .int .i64 0, .int .i64 14]) ∧ w = w' := by
  unfold At at hix
  have h2 : decide ((p : Int) < 0) = false := by simp
  have h3 : decide (s.size < p) = false := by simp; omega
  have h4 : ((p : Int) == (s.size : Int)) = false := by simp; omega
  by_cases h0 : a = 128
  · subst h0
    change ∀ w, (Instr.index 9 (.string s) (.int .i64 (p : Int))).run Tryd.prog w = .ok (.int .u8 128) w at hix
    clear h ha
    go_enter Tryd.func35, Tryd.ntmps35
    go_wp2
    go_ret3
    exact ⟨rfl, rfl⟩
  · have t1 : decide ((a : Int) < 128) = false := by simp; omega
    have t2 : ((a : Int) == 128) = false := by simp; omega
    have t3 : decide ((130 : Int) < (a : Int)) = true := by simp; omega
    have ha1 : (a : Int) < 256 := by omega
    clear h ha h0
    go_enter Tryd.func35, Tryd.ntmps35
    go_wp2
    go_ret3
    exact ⟨rfl, rfl⟩

theorem berget_w_short1 (p : Nat) (s : ByteArray) (w : World) (hs : s.size ≤ 5000000) (hp : p + 1 = s.size) (hix : At s p 129) :
    Calls Tryd.prog 35 #[.string s, .int .i64 (p : Int)] w fun e w' => e = .returned (.tuple #[.int .i64 0, .int .i64 0, .int .i64 2]) ∧ w = w' := by
  change ∀ w, (Instr.index 9 (.string s) (.int .i64 (p : Int))).run Tryd.prog w = .ok (.int .u8 129) w at hix
  have h2 : decide ((p : Int) < 0) = false := by simp
  have h3 : decide (s.size < p) = false := by simp; omega
  have h4 : ((p : Int) == (s.size : Int)) = false := by simp; omega
  have hp' : p < s.size := by omega
  have hq : s.size < p + 2 := by omega
  clear hp
  go_enter Tryd.func35, Tryd.ntmps35
  go_wp2
  go_ret3
  exact ⟨rfl, rfl⟩

theorem berget_w_short2 (p : Nat) (s : ByteArray) (w : World) (hs : s.size ≤ 5000000) (hp' : p < s.size) (hq : s.size < p + 3) (hix : At s p 130) :
    Calls Tryd.prog 35 #[.string s, .int .i64 (p : Int)] w fun e w' => e = .returned (.tuple #[.int .i64 0, .int .i64 0, .int .i64 2]) ∧ w = w' := by
  change ∀ w, (Instr.index 9 (.string s) (.int .i64 (p : Int))).run Tryd.prog w = .ok (.int .u8 130) w at hix
  have h2 : decide ((p : Int) < 0) = false := by simp
  have h3 : decide (s.size < p) = false := by simp; omega
  have h4 : ((p : Int) == (s.size : Int)) = false := by simp; omega
  go_enter Tryd.func35, Tryd.ntmps35
  go_wp2
  go_ret3
  exact ⟨rfl, rfl⟩

theorem berget_w_bad1 (p z k : Nat) (s : ByteArray) (w : World) (hs : s.size ≤ 5000000) (hp : p + 1 < s.size) (hix : At s p 129) (hk : k < 2)
    (hn : ∀ W, Calls Tryd.prog 39 #[.string (s.extract (p + 1) (p + 2))] W fun e w' => e = .returned (.int .i64 (z : Int)) ∧ W = w')
    (hz : ∀ W, Calls Tryd.prog 40 #[.int .i64 (z : Int)] W fun e w' => e = .returned (.int .i64 (k : Int)) ∧ W = w') :
    Calls Tryd.prog 35 #[.string s, .int .i64 (p : Int)] w fun e w' => e = .returned (.tuple #[.int .i64 0, .int .i64 0, .int .i64 14]) ∧ w = w' := by
  change ∀ w, (Instr.index 9 (.string s) (.int .i64 (p : Int))).run Tryd.prog w = .ok (.int .u8 129) w at hix
  have HN := Lib.hid hn
  have HZ := Lib.hid hz
  have h2 : decide ((p : Int) < 0) = false := by simp
  have h3 : decide (s.size < p) = false := by simp; omega
  have h4 : ((p : Int) == (s.size : Int)) = false := by simp; omega
  have hp' : p < s.size := by omega
  clear hn hz
  go_enter Tryd.func35, Tryd.ntmps35
  go_wp2_with fail
  refine (HN.out _).mono ?_
  rintro e w1 ⟨rfl, rfl⟩
  go_wp2_with fail
  refine (HZ.out _).mono ?_
  rintro e w1 ⟨rfl, rfl⟩
  go_wp2
  go_ret3
  exact ⟨rfl, rfl⟩

theorem berget_w_bad2 (p z k : Nat) (s : ByteArray) (w : World) (hs : s.size ≤ 5000000) (hp : p + 2 < s.size) (hix : At s p 130) (hk : k < 3)
    (hn : ∀ W, Calls Tryd.prog 39 #[.string (s.extract (p + 1) (p + 3))] W fun e w' => e = .returned (.int .i64 (z : Int)) ∧ W = w')
    (hz : ∀ W, Calls Tryd.prog 40 #[.int .i64 (z : Int)] W fun e w' => e = .returned (.int .i64 (k : Int)) ∧ W = w') :
    Calls Tryd.prog 35 #[.string s, .int .i64 (p : Int)] w fun e w' => e = .returned (.tuple #[.int .i64 0, .int .i64 0, .int .i64 14]) ∧ w = w' := by
  change ∀ w, (Instr.index 9 (.string s) (.int .i64 (p : Int))).run Tryd.prog w = .ok (.int .u8 130) w at hix
  have HN := Lib.hid hn
  have HZ := Lib.hid hz
  have h2 : decide ((p : Int) < 0) = false := by simp
  have h3 : decide (s.size < p) = false := by simp; omega
  have h4 : ((p : Int) == (s.size : Int)) = false := by simp; omega
  have hp' : p < s.size := by omega
  clear hn hz
  go_enter Tryd.func35, Tryd.ntmps35
  go_wp2_with fail
  refine (HN.out _).mono ?_
  rintro e w1 ⟨rfl, rfl⟩
  go_wp2_with fail
  refine (HZ.out _).mono ?_
  rintro e w1 ⟨rfl, rfl⟩
  go_wp2
  go_ret3
  exact ⟨rfl, rfl⟩

theorem berget_w_two (p z k : Nat) (s : ByteArray) (w : World) (hs : s.size ≤ 5000000) (hp : p + 1 < s.size) (hix : At s p 129) (hk : k = 2)
    (hn : ∀ W, Calls Tryd.prog 39 #[.string (s.extract (p + 1) (p + 2))] W fun e w' => e = .returned (.int .i64 (z : Int)) ∧ W = w')
    (hz : ∀ W, Calls Tryd.prog 40 #[.int .i64 (z : Int)] W fun e w' => e = .returned (.int .i64 (k : Int)) ∧ W = w') :
    Calls Tryd.prog 35 #[.string s, .int .i64 (p : Int)] w fun e w' => e = .returned (.tuple #[.int .i64 (z : Int), .int .i64 ((p + 2 : Nat) : Int), .int .i64 0]) ∧ w = w' := by
  change ∀ w, (Instr.index 9 (.string s) (.int .i64 (p : Int))).run Tryd.prog w = .ok (.int .u8 129) w at hix
  have HN := Lib.hid hn
  have HZ := Lib.hid hz
  have h2 : decide ((p : Int) < 0) = false := by simp
  have h3 : decide (s.size < p) = false := by simp; omega
  have h4 : ((p : Int) == (s.size : Int)) = false := by simp; omega
  have hp' : p < s.size := by omega
  clear hn hz
  subst hk
  go_enter Tryd.func35, Tryd.ntmps35
  go_wp2_with fail
  refine (HN.out _).mono ?_
  rintro e w1 ⟨rfl, rfl⟩
  go_wp2_with fail
  refine (HZ.out _).mono ?_
  rintro e w1 ⟨rfl, rfl⟩
  go_wp2
  go_ret3
  exact ⟨rfl, rfl⟩

theorem berget_w_three (p z k : Nat) (s : ByteArray) (w : World) (hs : s.size ≤ 5000000) (hp : p + 2 < s.size) (hix : At s p 130) (hk : k = 3)
    (hn : ∀ W, Calls Tryd.prog 39 #[.string (s.extract (p + 1) (p + 3))] W fun e w' => e = .returned (.int .i64 (z : Int)) ∧ W = w')
    (hz : ∀ W, Calls Tryd.prog 40 #[.int .i64 (z : Int)] W fun e w' => e = .returned (.int .i64 (k : Int)) ∧ W = w') :
    Calls Tryd.prog 35 #[.string s, .int .i64 (p : Int)] w fun e w' => e = .returned (.tuple #[.int .i64 (z : Int), .int .i64 ((p + 3 : Nat) : Int), .int .i64 0]) ∧ w = w' := by
  change ∀ w, (Instr.index 9 (.string s) (.int .i64 (p : Int))).run Tryd.prog w = .ok (.int .u8 130) w at hix
  have HN := Lib.hid hn
  have HZ := Lib.hid hz
  have h2 : decide ((p : Int) < 0) = false := by simp
  have h3 : decide (s.size < p) = false := by simp; omega
  have h4 : ((p : Int) == (s.size : Int)) = false := by simp; omega
  have hp' : p < s.size := by omega
  clear hn hz
  subst hk
  go_enter Tryd.func35, Tryd.ntmps35
  go_wp2_with fail
  refine (HN.out _).mono ?_
  rintro e w1 ⟨rfl, rfl⟩
  go_wp2_with fail
  refine (HZ.out _).mono ?_
  rintro e w1 ⟨rfl, rfl⟩
  go_wp2
  go_ret3
  exact ⟨rfl, rfl⟩

def bergetV (r : Nat × Nat × Nat) : Value := .tuple #[.int .i64 (r.1 : Int), .int .i64 (r.2.1 : Int), .int .i64 (r.2.2 : Int)]

theorem berNum_one (s : ByteArray) (p : Nat) (h : p + 1 < s.size) : berNum (s.extract (p + 1) (p + 2)).data.toList = s[p + 1].toNat := by
  have hl : s.data.toList.length = s.size := by simp
  rw [piece_list s (p + 1) 1, List.drop_eq_getElem_cons (by omega)]
  show 256 * 0 + s[p + 1].toNat = _
  omega
theorem berNum_two (s : ByteArray) (p : Nat) (h : p + 2 < s.size) : berNum (s.extract (p + 1) (p + 3)).data.toList = 256 * s[p + 1].toNat + s[p + 2].toNat := by
  have hl : s.data.toList.length = s.size := by simp
  rw [piece_list s (p + 1) 2, List.drop_eq_getElem_cons (by omega), List.drop_eq_getElem_cons (by omega)]
  show 256 * (256 * 0 + s[p + 1].toNat) + s[p + 2].toNat = _
  omega

/-- What Get answers at a place of a text. -/
theorem berget_any (p : Nat) (s : ByteArray) (w : World) (hs : s.size ≤ 5000000) (hp : p ≤ s.size) :
    Calls Tryd.prog 35 #[.string s, .int .i64 (p : Int)] w fun e w' => e = .returned (bergetV (berGet s.data.toList p)) ∧ w = w' := by
  have hl : s.data.toList.length = s.size := by simp
  by_cases h : p = s.size
  · subst h
    rw [berGet_cut (by omega)]
    exact berget_w_cut s w
  have hp : p < s.size := by omega
  have ha := s[p].toNat_lt
  have hix := at_str s p hp
  rw [berGet_at _ (list_at s p hp)]
  generalize s[p].toNat = a at *
  by_cases h1 : a < 128
  · rw [berRead_one _ _ h1]
    exact berget_w_one p a s w hs hp hix h1
  by_cases h2 : a = 129
  · subst h2
    by_cases hq : p + 1 = s.size
    · rw [List.getElem?_eq_none (by omega), Option.map_none, berRead_cut1]
      exact berget_w_short1 p s w hs hq hix
    · have hq : p + 1 < s.size := by omega
      have hn := fun W => number_any (s.extract (p + 1) (p + 2)) W (by simp; omega)
      rw [berNum_one s p hq] at hn
      rw [list_at s (p + 1) hq, Option.map_some]
      have hb := s[p + 1].toNat_lt
      generalize s[p + 1].toNat = b at *
      have hz := fun W => bersize_any b W (by omega)
      by_cases h3 : b < 128
      · rw [berRead_bad1 _ h3]
        rw [berSz_one h3] at hz
        exact berget_w_bad1 p b 1 s w hs hq hix (by omega) hn hz
      · rw [berRead_two _ (by omega)]
        rw [berSz_two (by omega) hb] at hz
        exact berget_w_two p b 2 s w hs hq hix rfl hn hz
  by_cases h3 : a = 130
  · subst h3
    by_cases hq : s.size < p + 3
    · rw [List.getElem?_eq_none (show s.data.toList.length ≤ p + 2 by omega), Option.map_none, berRead_cut2]
      exact berget_w_short2 p s w hs hp hq hix
    · have hq : p + 2 < s.size := by omega
      have hq1 : p + 1 < s.size := by omega
      have hn := fun W => number_any (s.extract (p + 1) (p + 3)) W (by simp; omega)
      rw [berNum_two s p hq] at hn
      rw [list_at s (p + 1) hq1, list_at s (p + 2) hq, Option.map_some, Option.map_some]
      have hb := s[p + 1].toNat_lt
      have hc := s[p + 2].toNat_lt
      generalize s[p + 1].toNat = b at *
      generalize s[p + 2].toNat = c at *
      have hz := fun W => bersize_any (256 * b + c) W (by omega)
      by_cases h4 : b = 0
      · subst h4
        rw [berRead_bad2]
        exact berget_w_bad2 p _ _ s w hs hq hix (by have := berSz_le (256 * 0 + c); by_cases g : c < 128; · rw [berSz_one (by omega)]; omega
                                                    rw [berSz_two (by omega) (by omega)]; omega) hn hz
      · rw [berRead_three (by omega)]
        rw [berSz_three (by omega)] at hz
        exact berget_w_three p _ 3 s w hs hq hix rfl hn hz
  rw [berRead_no _ _ (by omega)]
  exact berget_w_no p a s w hp ha hix (by omega)

end Go.Proofs.YtmobillfeldcjaaDoor
