/-
  What Right and the document's Right answer: for every number, in every world.
-/
import Derived.Test.YtldicdjkgoncoaaTagSmall
namespace Go.Proofs.Ytldicdjkgoncoaa
open Go.RowKit

/-- The number is a tag. -/
def tagB (n : Int) : Bool := decide (0 ≤ n) && (decide (tone n.toNat) || decide (ttwo n.toNat))
theorem tagB_far {n : Int} (h : n < 0 ∨ 65535 < n) : tagB n = false := by
  unfold tagB
  rw [Bool.and_eq_false_iff]
  by_cases h0 : 0 ≤ n
  · right
    rw [Bool.or_eq_false_iff]
    refine ⟨decide_eq_false fun g => ?_, decide_eq_false fun g => ?_⟩
    · have := g.1; omega
    · have := g.2.1; omega
  · left; exact decide_eq_false h0
theorem tagB_nat (n : Nat) : tagB (n : Int) = true ↔ tone n ∨ ttwo n := by
  unfold tagB
  simp
theorem tagB_low {n : Nat} (h : n < 256) : tagB (n : Int) = decide (tfirst n = 1) := by
  rw [Bool.eq_iff_iff, tagB_nat, decide_eq_true_eq]
  constructor
  · rintro (g | g)
    · exact g.2
    · have := g.1; omega
  · intro g; exact Or.inl ⟨h, g⟩
theorem tagB_high {a b : Nat} (ha : a < 256) (hb : b < 256) (h : 1 ≤ a) : tagB ((256 * a + b : Nat) : Int) = (decide (tfirst a = 2) && decide (tends b)) := by
  have d1 : (256 * a + b) / 256 = a := by omega
  have d2 : (256 * a + b) % 256 = b := by omega
  rw [Bool.eq_iff_iff, tagB_nat, Bool.and_eq_true, decide_eq_true_eq, decide_eq_true_eq]
  constructor
  · rintro (g | g)
    · have := g.1; omega
    · have g1 := g.2.2.1
      have g2 := g.2.2.2
      rw [d1] at g1
      rw [d2] at g2
      exact ⟨g1, g2⟩
  · rintro ⟨g1, g2⟩
    exact Or.inr ⟨by omega, by omega, by rw [d1]; exact g1, by rw [d2]; exact g2⟩

theorem right_far (n : Int) (w : World) (h : n < 0 ∨ 65535 < n) : Calls Try.prog 30 #[.int .i64 n] w fun e w' => e = .returned (.bool false) ∧ w = w' := by
  by_cases h0 : n < 0
  · clear h
    go_enter Try.func30, Try.ntmps30
    go_wp2
    go_ret
    exact ⟨rfl, rfl⟩
  · have h1 : decide (n < 0) = false := by simpa using h0
    have h2 : 65535 < n := by omega
    clear h h0
    go_enter Try.func30, Try.ntmps30
    go_wp2
    go_ret
    exact ⟨rfl, rfl⟩

theorem right_low (n : Nat) (w : World) (h : n < 256) : Calls Try.prog 30 #[.int .i64 (n : Int)] w fun e w' => e = .returned (.bool (decide (tfirst n = 1))) ∧ w = w' := by
  have t1 : decide ((n : Int) < 0) = false := by simp
  have t2 : decide ((65535 : Int) < (n : Int)) = false := by simp; omega
  have t3 : (n : Int) / 256 = 0 := by omega
  have t4 : (n : Int) % 256 = n := by omega
  rcases tfirst_cases n with ⟨e, _⟩ | ⟨e, _⟩ | ⟨e, _⟩
  · have HB := Lib.hid (begins_no n h e)
    rw [e]
    have h' : (n : Int) < 256 := by omega
    clear e h
    go_enter Try.func30, Try.ntmps30
    go_wp2_with fail
    refine (HB.out _).mono ?_
    rintro e w1 ⟨rfl, rfl⟩
    go_wp2
    go_ret
    exact ⟨rfl, rfl⟩
  · have HB := Lib.hid (begins_yes n h (by omega))
    have HG := Lib.hid (goesOn_no n h e)
    rw [e]
    have h' : (n : Int) < 256 := by omega
    clear e h
    go_enter Try.func30, Try.ntmps30
    go_wp2_with fail
    refine (HB.out _).mono ?_
    rintro e w1 ⟨rfl, rfl⟩
    go_wp2_with fail
    refine (HG.out _).mono ?_
    rintro e w1 ⟨rfl, rfl⟩
    go_wp2
    go_ret
    exact ⟨rfl, rfl⟩
  · have HB := Lib.hid (begins_yes n h (by omega))
    have HG := Lib.hid (goesOn_yes n h e)
    rw [e]
    have h' : (n : Int) < 256 := by omega
    clear e h
    go_enter Try.func30, Try.ntmps30
    go_wp2_with fail
    refine (HB.out _).mono ?_
    rintro e w1 ⟨rfl, rfl⟩
    go_wp2_with fail
    refine (HG.out _).mono ?_
    rintro e w1 ⟨rfl, rfl⟩
    go_wp2
    go_ret
    exact ⟨rfl, rfl⟩

theorem right_high (n a b : Nat) (w : World) (ha : a < 256) (hb : b < 256) (h : 1 ≤ a) (hn : n = 256 * a + b) : Calls Try.prog 30 #[.int .i64 (n : Int)] w fun e w' => e = .returned (.bool (decide (tfirst a = 2) && decide (tends b))) ∧ w = w' := by
  have t1 : decide ((n : Int) < 0) = false := by simp
  have t2 : decide ((65535 : Int) < (n : Int)) = false := by simp; omega
  have t3 : (n : Int) / 256 = (a : Int) := by omega
  have t4 : (n : Int) % 256 = (b : Int) := by omega
  have t5 : (a : Int) % 256 = (a : Int) := by omega
  have t6 : ((a : Int) == 0) = false := by simp; omega
  have hn1 : (n : Int) ≤ 65535 := by omega
  have ha1 : (a : Int) < 256 := by omega
  have hb1 : (b : Int) < 256 := by omega
  rcases tfirst_cases a with ⟨e, _⟩ | ⟨e, _⟩ | ⟨e, _⟩
  · have HB := Lib.hid (begins_no a ha e)
    rw [e]
    clear e h hn ha hb
    go_enter Try.func30, Try.ntmps30
    go_wp2_with fail
    refine (HB.out _).mono ?_
    rintro e w1 ⟨rfl, rfl⟩
    go_wp2
    go_ret
    exact ⟨rfl, rfl⟩
  · have HB := Lib.hid (begins_yes a ha (by omega))
    have HG := Lib.hid (goesOn_no a ha e)
    rw [e]
    clear e h hn ha hb
    go_enter Try.func30, Try.ntmps30
    go_wp2_with fail
    refine (HB.out _).mono ?_
    rintro e w1 ⟨rfl, rfl⟩
    go_wp2_with fail
    refine (HG.out _).mono ?_
    rintro e w1 ⟨rfl, rfl⟩
    go_wp2
    go_ret
    exact ⟨rfl, rfl⟩
  · have HB := Lib.hid (begins_yes a ha (by omega))
    have HG := Lib.hid (goesOn_yes a ha e)
    have HE := Lib.hid (ends_any b)
    rw [e]
    rw [show (decide (2 = 2) && decide (tends b)) = decide (tends b) by simp]
    generalize decide (tends b) = r at *
    clear e h hn ha hb
    go_enter Try.func30, Try.ntmps30
    go_wp2_with fail
    refine (HB.out _).mono ?_
    rintro e w1 ⟨rfl, rfl⟩
    go_wp2_with fail
    refine (HG.out _).mono ?_
    rintro e w1 ⟨rfl, rfl⟩
    go_wp2_with fail
    refine (HE.out _).mono ?_
    rintro e w1 ⟨rfl, rfl⟩
    go_wp2
    go_ret
    exact ⟨rfl, rfl⟩

theorem right_any (n : Int) (w : World) : Calls Try.prog 30 #[.int .i64 n] w fun e w' => e = .returned (.bool (tagB n)) ∧ w = w' := by
  by_cases h : n < 0 ∨ 65535 < n
  · rw [tagB_far h]
    exact right_far n w h
  obtain ⟨n, rfl⟩ := Int.eq_ofNat_of_zero_le (show 0 ≤ n by omega)
  by_cases h1 : n < 256
  · have := right_low n w h1
    rw [← tagB_low h1] at this
    exact this
  · have := right_high n (n / 256) (n % 256) w (by omega) (by omega) (by omega) (by omega)
    rw [← tagB_high (by omega) (by omega) (by omega), show 256 * (n / 256) + n % 256 = n by omega] at this
    exact this

theorem refRight_far (n : Int) (w : World) (h : n < 0 ∨ 65535 < n) : Calls Try.prog 19 #[.int .i64 n] w fun e w' => e = .returned (.bool false) ∧ w = w' := by
  by_cases h0 : n < 0
  · clear h
    go_enter Try.func19, Try.ntmps19
    go_wp2
    go_ret
    exact ⟨rfl, rfl⟩
  · have h1 : decide (n < 0) = false := by simpa using h0
    have h2 : 65535 < n := by omega
    clear h h0
    go_enter Try.func19, Try.ntmps19
    go_wp2
    go_ret
    exact ⟨rfl, rfl⟩

theorem refRight_low (n : Nat) (w : World) (h : n < 256) : Calls Try.prog 19 #[.int .i64 (n : Int)] w fun e w' => e = .returned (.bool (decide (tfirst n = 1))) ∧ w = w' := by
  have t1 : decide ((n : Int) < 0) = false := by simp
  have t2 : decide ((65535 : Int) < (n : Int)) = false := by simp; omega
  have t4 : (n : Int) % 256 = n := by omega
  have h' : (n : Int) < 256 := by omega
  have HF := Lib.hid (tfirst_any n h)
  clear h
  generalize tfirst n = f at *
  have hf : ((f : Int) == 1) = decide (f = 1) := by rw [Bool.eq_iff_iff]; simp; omega
  go_enter Try.func19, Try.ntmps19
  go_wp2_with fail
  refine (HF.out _).mono ?_
  rintro e w1 ⟨rfl, rfl⟩
  go_wp2
  go_ret
  exact ⟨by rw [← hf]; rfl, rfl⟩

theorem refRight_high (n a b : Nat) (w : World) (ha : a < 256) (hb : b < 256) (h : 1 ≤ a) (hn : n = 256 * a + b) : Calls Try.prog 19 #[.int .i64 (n : Int)] w fun e w' => e = .returned (.bool (decide (tfirst a = 2) && decide (tends b))) ∧ w = w' := by
  have t1 : decide ((n : Int) < 0) = false := by simp
  have t2 : decide ((65535 : Int) < (n : Int)) = false := by simp; omega
  have t3 : (n : Int) / 256 = (a : Int) := by omega
  have t4 : (n : Int) % 256 = (b : Int) := by omega
  have t5 : (a : Int) % 256 = (a : Int) := by omega
  have t6 : decide ((n : Int) < 256) = false := by simp; omega
  have hn1 : (n : Int) ≤ 65535 := by omega
  have ha1 : (a : Int) < 256 := by omega
  have hb1 : (b : Int) < 256 := by omega
  have HF := Lib.hid (tfirst_any a ha)
  by_cases e2 : tfirst a = 2
  · rw [e2] at HF ⊢
    rw [show (decide (2 = 2) && decide (tends b)) = decide (tends b) by simp]
    by_cases h1 : 1 ≤ b
    · have g1 : (1 : Int) ≤ (b : Int) := by omega
      by_cases h2 : b ≤ 127
      · have g2 : (b : Int) ≤ 127 := by omega
        rw [show decide (tends b) = true by simp; exact ⟨h1, h2⟩]
        clear h hn ha hb h1 h2 e2
        go_enter Try.func19, Try.ntmps19
        go_wp2_with fail
        refine (HF.out _).mono ?_
        rintro e w1 ⟨rfl, rfl⟩
        go_wp2
        go_ret
        exact ⟨rfl, rfl⟩
      · have g2 : decide ((b : Int) ≤ 127) = false := by simp; omega
        rw [show decide (tends b) = false by simp; intro g; exact h2 g.2]
        clear h hn ha hb h1 h2 e2
        go_enter Try.func19, Try.ntmps19
        go_wp2_with fail
        refine (HF.out _).mono ?_
        rintro e w1 ⟨rfl, rfl⟩
        go_wp2
        go_ret
        exact ⟨by rw [← g2]; rfl, rfl⟩
    · have g1 : decide ((1 : Int) ≤ (b : Int)) = false := by simp; omega
      rw [show decide (tends b) = false by simp; intro g; exact h1 g.1]
      clear h hn ha hb h1 e2
      go_enter Try.func19, Try.ntmps19
      go_wp2_with fail
      refine (HF.out _).mono ?_
      rintro e w1 ⟨rfl, rfl⟩
      go_wp2
      go_ret
      exact ⟨by first | rfl | (rw [← g1]; rfl), rfl⟩
  · have e3 : ((tfirst a : Int) == 2) = false := by simp; omega
    rw [show (decide (tfirst a = 2) && decide (tends b)) = false by simp [e2]]
    generalize tfirst a = f at *
    clear h hn ha hb e2
    go_enter Try.func19, Try.ntmps19
    go_wp2_with fail
    refine (HF.out _).mono ?_
    rintro e w1 ⟨rfl, rfl⟩
    go_wp2
    go_ret
    exact ⟨rfl, rfl⟩

theorem refRight_any (n : Int) (w : World) : Calls Try.prog 19 #[.int .i64 n] w fun e w' => e = .returned (.bool (tagB n)) ∧ w = w' := by
  by_cases h : n < 0 ∨ 65535 < n
  · rw [tagB_far h]
    exact refRight_far n w h
  obtain ⟨n, rfl⟩ := Int.eq_ofNat_of_zero_le (show 0 ≤ n by omega)
  by_cases h1 : n < 256
  · have := refRight_low n w h1
    rw [← tagB_low h1] at this
    exact this
  · have := refRight_high n (n / 256) (n % 256) w (by omega) (by omega) (by omega) (by omega)
    rw [← tagB_high (by omega) (by omega) (by omega), show 256 * (n / 256) + n % 256 = n by omega] at this
    exact this

end Go.Proofs.Ytldicdjkgoncoaa
