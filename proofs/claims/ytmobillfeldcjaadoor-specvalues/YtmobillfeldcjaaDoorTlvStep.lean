/-
  What one answers: for every text and every place in it, in every world.
-/
import Derived.Test.YtmobillfeldcjaaDoorTlvOf
import Derived.Test.YtmobillfeldcjaaDoorTagGet
import Derived.Test.YtmobillfeldcjaaDoorBerGet
namespace Go.Proofs.YtmobillfeldcjaaDoor
open Go.RowKit

set_option maxHeartbeats 1600000 in
theorem step_tag (s : ByteArray) (p t q e1 : Nat) (w : World) (he : e1 ≠ 0)
    (HT : Hid (∀ W, Calls Tryd.prog 34 #[.string s, .int .i64 (p : Int)] W fun e w' => e = .returned (.tuple #[.int .i64 (t : Int), .int .i64 (q : Int), .int .i64 (e1 : Int)]) ∧ W = w')) :
    Calls Tryd.prog 32 #[.string s, .int .i64 (p : Int)] w fun e w' => e = .returned (.tuple #[.agg #[.int .i64 0, .string ⟨#[]⟩], .int .i64 (p : Int), .int .i64 (e1 : Int)]) ∧ Below w.heap.size w w' := by
  have h0 : ((e1 : Int) == 0) = false := by simp; omega
  go_enter Tryd.func32, Tryd.ntmps32
  go_wp2_with fail
  refine (HT.out _).mono ?_
  rintro e w1 ⟨rfl, rfl⟩
  go_wp2
  refine bodyPost_ret (results_cell_row2 rfl _ _ w.heap.size _ _ _ _ rfl (heap_al _ _ _ rfl) Tryd.underlying49 rfl (by kernel_rfl)) rfl ?_
  exact ⟨rfl, below_al _ _⟩

set_option maxHeartbeats 1600000 in
theorem step_len (s : ByteArray) (p t q n f e2 : Nat) (w : World) (he : e2 ≠ 0)
    (HT : Hid (∀ W, Calls Tryd.prog 34 #[.string s, .int .i64 (p : Int)] W fun e w' => e = .returned (.tuple #[.int .i64 (t : Int), .int .i64 (q : Int), .int .i64 0]) ∧ W = w'))
    (HN : Hid (∀ W, Calls Tryd.prog 35 #[.string s, .int .i64 (q : Int)] W fun e w' => e = .returned (.tuple #[.int .i64 (n : Int), .int .i64 (f : Int), .int .i64 (e2 : Int)]) ∧ W = w')) :
    Calls Tryd.prog 32 #[.string s, .int .i64 (p : Int)] w fun e w' => e = .returned (.tuple #[.agg #[.int .i64 0, .string ⟨#[]⟩], .int .i64 (q : Int), .int .i64 (e2 : Int)]) ∧ Below w.heap.size w w' := by
  have h0 : ((e2 : Int) == 0) = false := by simp; omega
  go_enter Tryd.func32, Tryd.ntmps32
  go_wp2_with fail
  refine (HT.out _).mono ?_
  rintro e w1 ⟨rfl, rfl⟩
  go_wp2_with fail
  refine (HN.out _).mono ?_
  rintro e w1 ⟨rfl, rfl⟩
  go_wp2
  refine bodyPost_ret (results_cell_row2 rfl _ _ w.heap.size _ _ _ _ rfl (heap_al _ _ _ rfl) Tryd.underlying49 rfl (by kernel_rfl)) rfl ?_
  exact ⟨rfl, below_al _ _⟩

set_option maxHeartbeats 1600000 in
theorem step_cut (s : ByteArray) (p t q n f : Nat) (w : World) (hs : s.size ≤ 5000000) (hn : n ≤ 65535) (hf : f ≤ 5000000) (hc : s.size < f + n)
    (HT : Hid (∀ W, Calls Tryd.prog 34 #[.string s, .int .i64 (p : Int)] W fun e w' => e = .returned (.tuple #[.int .i64 (t : Int), .int .i64 (q : Int), .int .i64 0]) ∧ W = w'))
    (HN : Hid (∀ W, Calls Tryd.prog 35 #[.string s, .int .i64 (q : Int)] W fun e w' => e = .returned (.tuple #[.int .i64 (n : Int), .int .i64 (f : Int), .int .i64 0]) ∧ W = w')) :
    Calls Tryd.prog 32 #[.string s, .int .i64 (p : Int)] w fun e w' => e = .returned (.tuple #[.agg #[.int .i64 0, .string ⟨#[]⟩], .int .i64 (s.size : Int), .int .i64 2]) ∧ Below w.heap.size w w' := by
  go_enter Tryd.func32, Tryd.ntmps32
  go_wp2_with fail
  refine (HT.out _).mono ?_
  rintro e w1 ⟨rfl, rfl⟩
  go_wp2_with fail
  refine (HN.out _).mono ?_
  rintro e w1 ⟨rfl, rfl⟩
  go_wp2
  refine bodyPost_ret (results_cell_row2 rfl _ _ w.heap.size _ _ _ _ rfl (heap_al _ _ _ rfl) Tryd.underlying49 rfl (by kernel_rfl)) rfl ?_
  exact ⟨rfl, below_al _ _⟩

set_option maxHeartbeats 1600000 in
theorem step_yes (s : ByteArray) (p t q n f : Nat) (w : World) (hs : s.size ≤ 5000000) (hc : f + n ≤ s.size)
    (HT : Hid (∀ W, Calls Tryd.prog 34 #[.string s, .int .i64 (p : Int)] W fun e w' => e = .returned (.tuple #[.int .i64 (t : Int), .int .i64 (q : Int), .int .i64 0]) ∧ W = w'))
    (HN : Hid (∀ W, Calls Tryd.prog 35 #[.string s, .int .i64 (q : Int)] W fun e w' => e = .returned (.tuple #[.int .i64 (n : Int), .int .i64 (f : Int), .int .i64 0]) ∧ W = w')) :
    Calls Tryd.prog 32 #[.string s, .int .i64 (p : Int)] w fun e w' => e = .returned (.tuple #[.agg #[.int .i64 (t : Int), .string (s.extract f (f + n))], .int .i64 ((f + n : Nat) : Int), .int .i64 0]) ∧ Below w.heap.size w w' := by
  have hc' : ¬ (s.size < f + n) := by omega
  go_enter Tryd.func32, Tryd.ntmps32
  go_wp2_with fail
  refine (HT.out _).mono ?_
  rintro e w1 ⟨rfl, rfl⟩
  go_wp2_with fail
  refine (HN.out _).mono ?_
  rintro e w1 ⟨rfl, rfl⟩
  go_wp2
  refine bodyPost_ret (results_cell_row2 rfl _ _ w.heap.size _ _ _ _ rfl (heap_al _ _ _ rfl) Tryd.underlying49 rfl (by kernel_rfl)) rfl ?_
  exact ⟨rfl, below_al _ _⟩

/-- The answer at a place where something is wrong; where a tagged value stands. -/
theorem step_err (s : ByteArray) (p : Nat) (w : World) (hs : s.size ≤ 5000000) (hp : p ≤ s.size) (h : (stepG s.data.toList p).1 ≠ 0) :
    Calls Tryd.prog 32 #[.string s, .int .i64 (p : Int)] w fun e w' => e = .returned (.tuple #[.agg #[.int .i64 0, .string ⟨#[]⟩], .int .i64 ((stepG s.data.toList p).2.1 : Int), .int .i64 ((stepG s.data.toList p).1 : Int)]) ∧ Below w.heap.size w w' := by
  have hl : s.data.toList.length = s.size := by simp
  have HT := fun W => tget_any p s W hs hp
  unfold tgetV at HT
  by_cases h1 : (tget s.data.toList p).2.2 = 0
  · obtain ⟨t1, t2, t3, t4, t5⟩ := tget_put h1
    rw [h1] at HT
    have HN := fun W => berget_any (tget s.data.toList p).2.1 s W hs (by omega)
    unfold bergetV at HN
    by_cases h2 : (berGet s.data.toList (tget s.data.toList p).2.1).2.2 = 0
    · obtain ⟨b1, b2, b3, b4⟩ := berGet_put h2
      rw [h2] at HN
      by_cases h3 : s.data.toList.length < (berGet s.data.toList (tget s.data.toList p).2.1).2.1 + (berGet s.data.toList (tget s.data.toList p).2.1).1
      · rw [stepG_cut h1 h2 h3, hl]
        exact step_cut s p _ _ _ _ w hs (by omega) (by omega) (by omega) (Lib.hid HT) (Lib.hid HN)
      · rw [stepG_yes h1 h2 (by omega)] at h; exact absurd rfl h
    · rw [stepG_len h1 h2]
      exact step_len s p _ _ _ _ _ w h2 (Lib.hid HT) (Lib.hid HN)
  · rw [stepG_tag h1]
    exact step_tag s p _ _ _ w h1 (Lib.hid HT)
theorem step_ok (s : ByteArray) (p : Nat) (w : World) (hs : s.size ≤ 5000000) (hp : p ≤ s.size) (h : (stepG s.data.toList p).1 = 0) :
    Calls Tryd.prog 32 #[.string s, .int .i64 (p : Int)] w fun e w' => e = .returned (.tuple #[.agg #[.int .i64 ((stepG s.data.toList p).2.2.1 : Int), .string (s.extract (stepG s.data.toList p).2.2.2.1 ((stepG s.data.toList p).2.2.2.1 + (stepG s.data.toList p).2.2.2.2))], .int .i64 ((stepG s.data.toList p).2.1 : Int), .int .i64 0]) ∧ Below w.heap.size w w' := by
  have hl : s.data.toList.length = s.size := by simp
  have HT := fun W => tget_any p s W hs hp
  unfold tgetV at HT
  obtain ⟨h1, h2, h3⟩ := stepG_ok h
  obtain ⟨t1, t2, t3, t4, t5⟩ := tget_put h1
  rw [h1] at HT
  have HN := fun W => berget_any (tget s.data.toList p).2.1 s W hs (by omega)
  unfold bergetV at HN
  rw [h2] at HN
  rw [stepG_yes h1 h2 h3]
  dsimp only
  exact step_yes s p _ _ _ _ w hs (by omega) (Lib.hid HT) (Lib.hid HN)

end Go.Proofs.YtmobillfeldcjaaDoor
