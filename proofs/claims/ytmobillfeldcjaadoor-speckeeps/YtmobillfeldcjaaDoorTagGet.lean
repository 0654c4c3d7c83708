/-
  What Get answers: for every text and place, in every world.
-/
import Derived.Test.YtmobillfeldcjaaDoorTagPut
namespace Go.Proofs.YtmobillfeldcjaaDoor
open Go.RowKit

theorem tget_w_place (p : Int) (s : ByteArray) (w : World) (h : p < 0 ∨ (s.size : Int) < p) :
    Calls Tryd.prog 34 #[.string s, .int .i64 p] w fun e w' => e = .returned (.tuple #[.int .i64 0, .int .i64 0, .int .i64 1]) ∧ w = w' := by
  by_cases h0 : p < 0
  · clear h
    go_enter Tryd.func34, Tryd.ntmps34
    go_wp2
    go_ret3
    exact ⟨rfl, rfl⟩
  · have h1 : (s.size : Int) < p := by omega
    have h2 : decide (p < 0) = false := by simp; omega
    clear h h0
    go_enter Tryd.func34, Tryd.ntmps34
    go_wp2
    go_ret3
    exact ⟨rfl, rfl⟩

theorem tget_w_cut (s : ByteArray) (w : World) :
    Calls Tryd.prog 34 #[.string s, .int .i64 (s.size : Int)] w fun e w' => e = .returned (.tuple #[.int .i64 0, .int .i64 0, .int .i64 2]) ∧ w = w' := by
  have h2 : decide ((s.size : Int) < 0) = false := by simp
  go_enter Tryd.func34, Tryd.ntmps34
  go_wp2
  go_ret3
  exact ⟨rfl, rfl⟩

theorem tget_w_no (p a : Nat) (s : ByteArray) (w : World) (hp : p < s.size) (ha : a < 256) (hix : At s p a) (h : tfirst a = 0) :
    Calls Tryd.prog 34 #[.string s, .int .i64 (p : Int)] w fun e w' => e = .returned (.tuple #[.int .i64 0, .int .i64 0, .int .i64 13]) ∧ w = w' := by
  unfold At at hix
  have HB := Lib.hid (begins_no a ha h)
  have h2 : decide ((p : Int) < 0) = false := by simp
  have h3 : decide (s.size < p) = false := by simp; omega
  have h4 : ((p : Int) == (s.size : Int)) = false := by simp; omega
  have ha1 : (a : Int) < 256 := by omega
  clear h ha
  go_enter Tryd.func34, Tryd.ntmps34
  go_wp2_with fail
  refine (HB.out _).mono ?_
  rintro e w1 ⟨rfl, rfl⟩
  go_wp2
  go_ret3
  exact ⟨rfl, rfl⟩

theorem tget_w_one (p a : Nat) (s : ByteArray) (w : World) (hs : s.size ≤ 5000000) (hp : p < s.size) (ha : a < 256) (hix : At s p a) (h : tfirst a = 1) :
    Calls Tryd.prog 34 #[.string s, .int .i64 (p : Int)] w fun e w' => e = .returned (.tuple #[.int .i64 (a : Int), .int .i64 ((p + 1 : Nat) : Int), .int .i64 0]) ∧ w = w' := by
  unfold At at hix
  have HB := Lib.hid (begins_yes a ha (by omega))
  have HG := Lib.hid (goesOn_no a ha h)
  have h2 : decide ((p : Int) < 0) = false := by simp
  have h3 : decide (s.size < p) = false := by simp; omega
  have h4 : ((p : Int) == (s.size : Int)) = false := by simp; omega
  have ha1 : (a : Int) < 256 := by omega
  clear h ha
  go_enter Tryd.func34, Tryd.ntmps34
  go_wp2_with fail
  refine (HB.out _).mono ?_
  rintro e w1 ⟨rfl, rfl⟩
  go_wp2_with fail
  refine (HG.out _).mono ?_
  rintro e w1 ⟨rfl, rfl⟩
  go_wp2
  go_ret3
  exact ⟨rfl, rfl⟩

theorem tget_w_short (p a : Nat) (s : ByteArray) (w : World) (hs : s.size ≤ 5000000) (hp : p + 1 = s.size) (ha : a < 256) (hix : At s p a) (h : tfirst a = 2) :
    Calls Tryd.prog 34 #[.string s, .int .i64 (p : Int)] w fun e w' => e = .returned (.tuple #[.int .i64 0, .int .i64 0, .int .i64 2]) ∧ w = w' := by
  unfold At at hix
  have HB := Lib.hid (begins_yes a ha (by omega))
  have HG := Lib.hid (goesOn_yes a ha h)
  have h2 : decide ((p : Int) < 0) = false := by simp
  have h3 : decide (s.size < p) = false := by simp; omega
  have h4 : ((p : Int) == (s.size : Int)) = false := by simp; omega
  have h5 : ((p : Int) + 1 == (s.size : Int)) = true := by simp; omega
  have hp' : p < s.size := by omega
  have ha1 : (a : Int) < 256 := by omega
  clear h ha hp
  go_enter Tryd.func34, Tryd.ntmps34
  go_wp2_with fail
  refine (HB.out _).mono ?_
  rintro e w1 ⟨rfl, rfl⟩
  go_wp2_with fail
  refine (HG.out _).mono ?_
  rintro e w1 ⟨rfl, rfl⟩
  go_wp2
  go_ret3
  exact ⟨rfl, rfl⟩

theorem tget_w_bad (p a b : Nat) (s : ByteArray) (w : World) (hs : s.size ≤ 5000000) (hp : p + 1 < s.size) (ha : a < 256) (hix : At s p a) (hiy : At s ((p : Int) + 1) b) (h : tfirst a = 2) (hb : b < 256) (ht : ¬ tends b) :
    Calls Tryd.prog 34 #[.string s, .int .i64 (p : Int)] w fun e w' => e = .returned (.tuple #[.int .i64 0, .int .i64 0, .int .i64 13]) ∧ w = w' := by
  unfold At at hix hiy
  have HB := Lib.hid (begins_yes a ha (by omega))
  have HG := Lib.hid (goesOn_yes a ha h)
  have HE := Lib.hid (ends_any b)
  rw [decide_eq_false ht] at HE
  have h2 : decide ((p : Int) < 0) = false := by simp
  have h3 : decide (s.size < p) = false := by simp; omega
  have h4 : ((p : Int) == (s.size : Int)) = false := by simp; omega
  have h5 : ((p : Int) + 1 == (s.size : Int)) = false := by simp; omega
  have ha1 : (a : Int) < 256 := by omega
  have hb1 : (b : Int) < 256 := by omega
  clear h ha hb ht
  go_enter Tryd.func34, Tryd.ntmps34
  go_wp2_with fail
  refine (HB.out _).mono ?_
  rintro e w1 ⟨rfl, rfl⟩
  go_wp2_with fail
  refine (HG.out _).mono ?_
  rintro e w1 ⟨rfl, rfl⟩
  go_wp2_with fail
  refine (HE.out _).mono ?_
  rintro e w1 ⟨rfl, rfl⟩
  go_wp2
  go_ret3
  exact ⟨rfl, rfl⟩

theorem tget_w_two (p a b : Nat) (s : ByteArray) (w : World) (hs : s.size ≤ 5000000) (hp : p + 1 < s.size) (ha : a < 256) (hix : At s p a) (hiy : At s ((p : Int) + 1) b) (h : tfirst a = 2) (hb : b < 256) (ht : tends b) :
    Calls Tryd.prog 34 #[.string s, .int .i64 (p : Int)] w fun e w' => e = .returned (.tuple #[.int .i64 ((256 * a + b : Nat) : Int), .int .i64 ((p + 2 : Nat) : Int), .int .i64 0]) ∧ w = w' := by
  unfold At at hix hiy
  have HB := Lib.hid (begins_yes a ha (by omega))
  have HG := Lib.hid (goesOn_yes a ha h)
  have HE := Lib.hid (ends_any b)
  rw [decide_eq_true ht] at HE
  have hj := tag_join a b ha hb
  have h2 : decide ((p : Int) < 0) = false := by simp
  have h3 : decide (s.size < p) = false := by simp; omega
  have h4 : ((p : Int) == (s.size : Int)) = false := by simp; omega
  have h5 : ((p : Int) + 1 == (s.size : Int)) = false := by simp; omega
  have ha1 : (a : Int) < 256 := by omega
  have hb1 : (b : Int) < 256 := by omega
  generalize 256 * a + b = z at hj ⊢
  clear h ha hb ht
  go_enter Tryd.func34, Tryd.ntmps34
  go_wp2_with fail
  refine (HB.out _).mono ?_
  rintro e w1 ⟨rfl, rfl⟩
  go_wp2_with fail
  refine (HG.out _).mono ?_
  rintro e w1 ⟨rfl, rfl⟩
  go_wp2_with fail
  refine (HE.out _).mono ?_
  rintro e w1 ⟨rfl, rfl⟩
  go_wp2
  go_ret3
  exact ⟨rfl, rfl⟩

def tgetV (r : Nat × Nat × Nat) : Value := .tuple #[.int .i64 (r.1 : Int), .int .i64 (r.2.1 : Int), .int .i64 (r.2.2 : Int)]

/-- What Get answers at a place of a text. -/
theorem tget_any (p : Nat) (s : ByteArray) (w : World) (hs : s.size ≤ 5000000) (hp : p ≤ s.size) :
    Calls Tryd.prog 34 #[.string s, .int .i64 (p : Int)] w fun e w' => e = .returned (tgetV (tget s.data.toList p)) ∧ w = w' := by
  have hl : s.data.toList.length = s.size := by simp
  by_cases h : p = s.size
  · subst h
    rw [tget_cut (by omega)]
    exact tget_w_cut s w
  have hp : p < s.size := by omega
  have ha := s[p].toNat_lt
  rw [tget_at _ (list_at s p hp)]
  rcases tfirst_cases s[p].toNat with ⟨e, _⟩ | ⟨e, _⟩ | ⟨e, _⟩
  · rw [tread_no _ e]
    exact tget_w_no p _ s w hp ha (at_str s p hp) e
  · rw [tread_one _ e]
    exact tget_w_one p _ s w hs hp ha (at_str s p hp) e
  · by_cases h1 : p + 1 = s.size
    · rw [List.getElem?_eq_none (by omega), Option.map_none, tread_cut e]
      exact tget_w_short p _ s w hs h1 ha (at_str s p hp) e
    · have hp1 : p + 1 < s.size := by omega
      have hb := s[p + 1].toNat_lt
      rw [list_at s (p + 1) hp1, Option.map_some]
      by_cases ht : tends s[p + 1].toNat
      · rw [tread_two e ht]
        exact tget_w_two p _ _ s w hs hp1 ha (at_str s p hp) (at_str s (p + 1) hp1) e hb ht
      · rw [tread_bad e ht]
        exact tget_w_bad p _ _ s w hs hp1 ha (at_str s p hp) (at_str s (p + 1) hp1) e hb ht

end Go.Proofs.YtmobillfeldcjaaDoor
