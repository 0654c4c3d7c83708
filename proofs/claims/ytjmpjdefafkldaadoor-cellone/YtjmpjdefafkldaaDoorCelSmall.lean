/-
  What known, packed, sixteen, size, spell, read and length answer, in every world.
-/
import Derived.Test.YtjmpjdefafkldaaDoorCelMath
import Derived.Test.YtjmpjdefafkldaaDoorPackBcd
import Derived.Test.YtjmpjdefafkldaaDoorPackHex
import Derived.Test.YtjmpjdefafkldaaDoorPackPfx
import Derived.Test.YtjmpjdefafkldaaDoorPackSpc
namespace Go.Proofs.YtjmpjdefafkldaaDoor
open Go.RowKit

theorem cknown_yes (st : Int) (h : st = 1 ∨ st = 2) (w : World) : Calls Tryd.prog 13 #[.int .i64 st] w fun e w' => e = .returned (.bool true) ∧ w = w' := by
  rcases h with rfl | rfl
  · go_enter Tryd.func13, Tryd.ntmps13
    go_wp2
    go_ret
    exact ⟨rfl, rfl⟩
  · go_enter Tryd.func13, Tryd.ntmps13
    go_wp2
    go_ret
    exact ⟨rfl, rfl⟩
theorem cknown_no (st : Int) (h : st ≠ 1 ∧ st ≠ 2) (w : World) : Calls Tryd.prog 13 #[.int .i64 st] w fun e w' => e = .returned (.bool false) ∧ w = w' := by
  have h1 : (st == 1) = false := by simpa using h.1
  have h2 : (st == 2) = false := by simpa using h.2
  clear h
  go_enter Tryd.func13, Tryd.ntmps13
  go_wp2
  go_ret
  exact ⟨rfl, rfl⟩

theorem cpacked_yes {st : Nat} {c : Int} (h : cway st c = 1) (w : World) : Calls Tryd.prog 30 #[.int .i64 (st : Int), .int .i64 c] w fun e w' => e = .returned (.bool true) ∧ w = w' := by
  obtain ⟨rfl, rfl⟩ := cway_one h
  show Calls Tryd.prog 30 #[.int .i64 2, .int .i64 1] w _
  clear h
  go_enter Tryd.func30, Tryd.ntmps30
  go_wp2
  go_ret
  exact ⟨rfl, rfl⟩
theorem cpacked_no {st : Nat} {c : Int} (hst : st = 1 ∨ st = 2) (h : cway st c ≠ 1) (w : World) : Calls Tryd.prog 30 #[.int .i64 (st : Int), .int .i64 c] w fun e w' => e = .returned (.bool false) ∧ w = w' := by
  rcases hst with rfl | rfl
  · show Calls Tryd.prog 30 #[.int .i64 1, .int .i64 c] w _
    clear h
    go_enter Tryd.func30, Tryd.ntmps30
    go_wp2
    go_ret
    exact ⟨rfl, rfl⟩
  · show Calls Tryd.prog 30 #[.int .i64 2, .int .i64 c] w _
    have h1 : (c == 1) = false := by
      apply Bool.eq_false_iff.2
      intro g
      have g1 : c = 1 := by simpa using g
      subst g1
      exact h rfl
    clear h
    go_enter Tryd.func30, Tryd.ntmps30
    go_wp2
    go_ret
    exact ⟨rfl, rfl⟩
theorem csixteen_yes {st : Nat} {c : Int} (h : cway st c = 2) (w : World) : Calls Tryd.prog 32 #[.int .i64 (st : Int), .int .i64 c] w fun e w' => e = .returned (.bool true) ∧ w = w' := by
  obtain ⟨rfl, hc⟩ := cway_two h
  clear h
  rcases hc with rfl | rfl
  · show Calls Tryd.prog 32 #[.int .i64 1, .int .i64 5] w _
    go_enter Tryd.func32, Tryd.ntmps32
    go_wp2
    go_ret
    exact ⟨rfl, rfl⟩
  · show Calls Tryd.prog 32 #[.int .i64 1, .int .i64 6] w _
    go_enter Tryd.func32, Tryd.ntmps32
    go_wp2
    go_ret
    exact ⟨rfl, rfl⟩
theorem csixteen_no {st : Nat} {c : Int} (hst : st = 1 ∨ st = 2) (h : cway st c = 0) (w : World) : Calls Tryd.prog 32 #[.int .i64 (st : Int), .int .i64 c] w fun e w' => e = .returned (.bool false) ∧ w = w' := by
  have hn := (cway_none h).2
  clear h
  rcases hst with rfl | rfl
  · show Calls Tryd.prog 32 #[.int .i64 1, .int .i64 c] w _
    have h5 : (c == 5) = false := by simp; omega
    have h6 : (c == 6) = false := by simp; omega
    clear hn
    go_enter Tryd.func32, Tryd.ntmps32
    go_wp2
    go_ret
    exact ⟨rfl, rfl⟩
  · show Calls Tryd.prog 32 #[.int .i64 2, .int .i64 c] w _
    clear hn
    go_enter Tryd.func32, Tryd.ntmps32
    go_wp2
    go_ret
    exact ⟨rfl, rfl⟩

theorem csize_any (st n : Nat) (c : Int) (w : World) (hst : st = 1 ∨ st = 2) (hn : n ≤ 1000000) :
    Calls Tryd.prog 22 #[.int .i64 (st : Int), .int .i64 c, .int .i64 (n : Int)] w fun e w' => e = .returned (.int .i64 (csz (cway st c) n : Int)) ∧ w = w' := by
  rcases cway_le st c with h | h | h
  · have HP := Lib.hid (cpacked_no (c := c) hst (by omega))
    have HS := Lib.hid (csixteen_no hst h)
    rw [h, csz_none]
    clear h hst
    go_enter Tryd.func22, Tryd.ntmps22
    go_wp2_with fail
    refine (HP.out _).mono ?_
    rintro e w1 ⟨rfl, rfl⟩
    go_wp2_with fail
    refine (HS.out _).mono ?_
    rintro e w1 ⟨rfl, rfl⟩
    go_wp2
    go_ret
    exact ⟨rfl, rfl⟩
  · have HP := Lib.hid (cpacked_yes h)
    have HZ := Lib.hid (fun W => size_nat n W (by omega))
    rw [h, csz_one]
    clear h hst
    generalize (n + 1) / 2 = z at *
    go_enter Tryd.func22, Tryd.ntmps22
    go_wp2_with fail
    refine (HP.out _).mono ?_
    rintro e w1 ⟨rfl, rfl⟩
    go_wp2_with fail
    refine (HZ.out _).mono ?_
    rintro e w1 ⟨rfl, rfl⟩
    go_wp2
    go_ret
    exact ⟨rfl, rfl⟩
  · have HP := Lib.hid (cpacked_no (c := c) hst (by omega))
    have HS := Lib.hid (csixteen_yes h)
    rw [h, csz_two]
    clear h hst
    go_enter Tryd.func22, Tryd.ntmps22
    go_wp2_with fail
    refine (HP.out _).mono ?_
    rintro e w1 ⟨rfl, rfl⟩
    go_wp2_with fail
    refine (HS.out _).mono ?_
    rintro e w1 ⟨rfl, rfl⟩
    go_wp2
    go_ret
    exact ⟨by simp, rfl⟩

theorem mk_self (s : ByteArray) : (⟨s.data.toList.toArray⟩ : ByteArray) = s := rfl

theorem cspell_any (st : Nat) (c : Int) (s : ByteArray) (w : World) (hst : st = 1 ∨ st = 2) (hs : s.size ≤ 999) (hd : cway st c = 1 → allD s.data.toList = true) :
    Calls Tryd.prog 15 #[.int .i64 (st : Int), .int .i64 c, .string s] w fun e w' => e = .returned (.string ⟨(spellL (cway st c) s.data.toList).toArray⟩) ∧ Below w.heap.size w w' := by
  rcases cway_le st c with h | h | h
  · have HP := Lib.hid (cpacked_no (c := c) hst (by omega))
    have HS := Lib.hid (csixteen_no hst h)
    rw [h, show (⟨(spellL 0 s.data.toList).toArray⟩ : ByteArray) = s from rfl]
    clear h hst hd
    go_enter Tryd.func15, Tryd.ntmps15
    go_wp2_with fail
    refine (HP.out _).mono ?_
    rintro e w1 ⟨rfl, rfl⟩
    go_wp2_with fail
    refine (HS.out _).mono ?_
    rintro e w1 ⟨rfl, rfl⟩
    go_wp2
    go_ret
    exact ⟨rfl, Below.refl _ _⟩
  · have HP := Lib.hid (cpacked_yes h)
    have hy : bputB s.data.toList = true := bputB_yes (by rw [list_size]; exact hs) (hd h)
    have HZ := Lib.hid (fun W => bput_any s W (by unfold maxLen; omega))
    rw [hy, bputS_yes hy] at HZ
    rw [h, show spellL 1 s.data.toList = packL s.data.toList from rfl]
    clear h hst hd hy
    generalize (⟨(packL s.data.toList).toArray⟩ : ByteArray) = x at *
    go_enter Tryd.func15, Tryd.ntmps15
    go_wp2_with fail
    refine (HP.out _).mono ?_
    rintro e w1 ⟨rfl, rfl⟩
    go_wp2_with fail
    refine (HZ.out _).mono ?_
    rintro e w1 ⟨rfl, hb1⟩
    go_wp2
    go_ret
    exact ⟨rfl, hb1⟩
  · have HP := Lib.hid (cpacked_no (c := c) hst (by omega))
    have HS := Lib.hid (csixteen_yes h)
    have HZ := Lib.hid (fun W => hput_any s W (by omega))
    rw [h, show spellL 2 s.data.toList = hputL s.data.toList from rfl]
    clear h hst hd
    generalize (⟨(hputL s.data.toList).toArray⟩ : ByteArray) = x at *
    go_enter Tryd.func15, Tryd.ntmps15
    go_wp2_with fail
    refine (HP.out _).mono ?_
    rintro e w1 ⟨rfl, rfl⟩
    go_wp2_with fail
    refine (HS.out _).mono ?_
    rintro e w1 ⟨rfl, rfl⟩
    go_wp2_with fail
    refine (HZ.out _).mono ?_
    rintro e w1 ⟨rfl, hb1⟩
    go_wp2
    go_ret
    exact ⟨rfl, hb1⟩

theorem cread_any (st n : Nat) (c : Int) (s : ByteArray) (w : World) (hst : st = 1 ∨ st = 2) (hs : s.size ≤ 1000000) :
    Calls Tryd.prog 23 #[.int .i64 (st : Int), .int .i64 c, .string s, .int .i64 (n : Int)] w fun e w' => e = .returned (.tuple #[.string (cread (cway st c) s n).1, .int .i64 ((cread (cway st c) s n).2 : Int)]) ∧ Below w.heap.size w w' := by
  rcases cway_le st c with h | h | h
  · have HP := Lib.hid (cpacked_no (c := c) hst (by omega))
    have HS := Lib.hid (csixteen_no hst h)
    rw [h]
    show Calls _ _ _ _ fun e w' => e = .returned (.tuple #[.string s, .int .i64 0]) ∧ _
    clear h hst
    go_enter Tryd.func23, Tryd.ntmps23
    go_wp2_with fail
    refine (HP.out _).mono ?_
    rintro e w1 ⟨rfl, rfl⟩
    go_wp2_with fail
    refine (HS.out _).mono ?_
    rintro e w1 ⟨rfl, rfl⟩
    go_wp2
    go_ret2
    exact ⟨rfl, Below.refl _ _⟩
  · have HP := Lib.hid (cpacked_yes h)
    have HZ := Lib.hid (fun W => bget_any s (n : Int) W)
    unfold bgetV at HZ
    rw [h]
    show Calls _ _ _ _ fun e w' => e = .returned (.tuple #[.string ⟨(bget s.data.toList n).1.toArray⟩, .int .i64 ((bget s.data.toList n).2.1 : Int)]) ∧ _
    generalize (⟨(bget s.data.toList n).1.toArray⟩ : ByteArray) = x at *
    generalize (bget s.data.toList n).2.1 = y at *
    generalize (bget s.data.toList n).2.2 = z at *
    clear h hst
    go_enter Tryd.func23, Tryd.ntmps23
    go_wp2_with fail
    refine (HP.out _).mono ?_
    rintro e w1 ⟨rfl, rfl⟩
    go_wp2_with fail
    refine (HZ.out _).mono ?_
    rintro e w1 ⟨rfl, hb1⟩
    go_wp2
    go_ret2
    exact ⟨rfl, hb1⟩
  · have HP := Lib.hid (cpacked_no (c := c) hst (by omega))
    have HS := Lib.hid (csixteen_yes h)
    have HZ := Lib.hid (fun W => hget_any s W (by omega))
    rw [h]
    show Calls _ _ _ _ fun e w' => e = .returned (.tuple #[.string (hgetS s.data.toList), .int .i64 ((if hgetB s.data.toList = true then 0 else 3 : Nat) : Int)]) ∧ _
    generalize hgetI s.data.toList = y at *
    cases hB : hgetB s.data.toList
    · rw [hB, hgetS_no hB] at HZ
      rw [hgetS_no hB]
      show Calls _ _ _ _ fun e w' => e = .returned (.tuple #[.string ⟨#[]⟩, .int .i64 3]) ∧ _
      clear h hst hB
      go_enter Tryd.func23, Tryd.ntmps23
      go_wp2_with fail
      refine (HP.out _).mono ?_
      rintro e w1 ⟨rfl, rfl⟩
      go_wp2_with fail
      refine (HS.out _).mono ?_
      rintro e w1 ⟨rfl, rfl⟩
      go_wp2_with fail
      refine (HZ.out _).mono ?_
      rintro e w1 ⟨rfl, hb1⟩
      go_wp2
      go_ret2
      exact ⟨rfl, hb1⟩
    · rw [hB] at HZ
      show Calls _ _ _ _ fun e w' => e = .returned (.tuple #[.string (hgetS s.data.toList), .int .i64 0]) ∧ _
      generalize hgetS s.data.toList = x at *
      clear h hst hB
      go_enter Tryd.func23, Tryd.ntmps23
      go_wp2_with fail
      refine (HP.out _).mono ?_
      rintro e w1 ⟨rfl, rfl⟩
      go_wp2_with fail
      refine (HS.out _).mono ?_
      rintro e w1 ⟨rfl, rfl⟩
      go_wp2_with fail
      refine (HZ.out _).mono ?_
      rintro e w1 ⟨rfl, hb1⟩
      go_wp2
      go_ret2
      exact ⟨rfl, hb1⟩

set_option maxHeartbeats 800000 in
theorem clength_fixed (st n c lo hi p : Int) (s : ByteArray) (w : World) :
    Calls Tryd.prog 21 #[.int .i64 st, .agg #[.int .i64 n, .int .i64 c, .int .i64 1, .int .i64 lo, .int .i64 hi], .string s, .int .i64 p] w fun e w' => e = .returned (.tuple #[.int .i64 hi, .int .i64 p, .int .i64 0]) ∧ Below w.heap.size w w' := by
  go_enter Tryd.func21, Tryd.ntmps21
  go_wp2
  go_ret3
  exact ⟨rfl, below_al _ _⟩
set_option maxHeartbeats 800000 in
theorem clength_err (st n c f lo hi p k a q : Int) (s : ByteArray) (w : World) (hf : (f == 1) = false) (hk : (k != 0) = true)
    (hg : ∀ W, Calls Tryd.prog 45 #[.int .i64 st, .int .i64 f, .string s, .int .i64 p] W fun e w' => e = .returned (.tuple #[.int .i64 a, .int .i64 q, .int .i64 k]) ∧ Below W.heap.size W w') :
    Calls Tryd.prog 21 #[.int .i64 st, .agg #[.int .i64 n, .int .i64 c, .int .i64 f, .int .i64 lo, .int .i64 hi], .string s, .int .i64 p] w fun e w' => e = .returned (.tuple #[.int .i64 0, .int .i64 0, .int .i64 k]) ∧ Below w.heap.size w w' := by
  have HG := Lib.hid hg
  clear hg
  go_enter Tryd.func21, Tryd.ntmps21
  go_wp2_with fail
  refine (HG.out _).mono ?_
  rintro e w1 ⟨rfl, hb1⟩
  have HB1 := Lib.hid (hbt (below_al _ _) hb1)
  clear hb1
  go_wp2
  go_ret3
  exact ⟨rfl, HB1.out⟩
set_option maxHeartbeats 800000 in
theorem clength_range (st n c f lo hi p a q : Int) (s : ByteArray) (w : World) (hf : (f == 1) = false) (h : a < lo ∨ hi < a)
    (hg : ∀ W, Calls Tryd.prog 45 #[.int .i64 st, .int .i64 f, .string s, .int .i64 p] W fun e w' => e = .returned (.tuple #[.int .i64 a, .int .i64 q, .int .i64 0]) ∧ Below W.heap.size W w') :
    Calls Tryd.prog 21 #[.int .i64 st, .agg #[.int .i64 n, .int .i64 c, .int .i64 f, .int .i64 lo, .int .i64 hi], .string s, .int .i64 p] w fun e w' => e = .returned (.tuple #[.int .i64 0, .int .i64 0, .int .i64 5]) ∧ Below w.heap.size w w' := by
  have HG := Lib.hid hg
  clear hg
  by_cases h1 : a < lo
  · have t1 : decide (a < lo) = true := by simpa using h1
    clear h h1
    go_enter Tryd.func21, Tryd.ntmps21
    go_wp2_with fail
    refine (HG.out _).mono ?_
    rintro e w1 ⟨rfl, hb1⟩
    have HB1 := Lib.hid (hbt (below_al _ _) hb1)
    obtain ⟨c0, c1, c2, c3, c4⟩ := obj_cells5 (spec_at hb1)
    clear hb1
    go_wp2
    go_ret3
    exact ⟨rfl, HB1.out⟩
  · have t1 : decide (a < lo) = false := by simpa using h1
    have t2 : decide (hi < a) = true := by simp; omega
    clear h h1
    go_enter Tryd.func21, Tryd.ntmps21
    go_wp2_with fail
    refine (HG.out _).mono ?_
    rintro e w1 ⟨rfl, hb1⟩
    have HB1 := Lib.hid (hbt (below_al _ _) hb1)
    obtain ⟨c0, c1, c2, c3, c4⟩ := obj_cells5 (spec_at hb1)
    clear hb1
    go_wp2
    go_ret3
    exact ⟨rfl, HB1.out⟩
set_option maxHeartbeats 800000 in
theorem clength_ok (st n c f lo hi p a q : Int) (s : ByteArray) (w : World) (hf : (f == 1) = false) (h : ¬ (a < lo ∨ hi < a))
    (hg : ∀ W, Calls Tryd.prog 45 #[.int .i64 st, .int .i64 f, .string s, .int .i64 p] W fun e w' => e = .returned (.tuple #[.int .i64 a, .int .i64 q, .int .i64 0]) ∧ Below W.heap.size W w') :
    Calls Tryd.prog 21 #[.int .i64 st, .agg #[.int .i64 n, .int .i64 c, .int .i64 f, .int .i64 lo, .int .i64 hi], .string s, .int .i64 p] w fun e w' => e = .returned (.tuple #[.int .i64 a, .int .i64 q, .int .i64 0]) ∧ Below w.heap.size w w' := by
  have HG := Lib.hid hg
  have t1 : decide (a < lo) = false := by simp; omega
  have t2 : decide (hi < a) = false := by simp; omega
  clear hg h
  go_enter Tryd.func21, Tryd.ntmps21
  go_wp2_with fail
  refine (HG.out _).mono ?_
  rintro e w1 ⟨rfl, hb1⟩
  have HB1 := Lib.hid (hbt (below_al _ _) hb1)
  obtain ⟨c0, c1, c2, c3, c4⟩ := obj_cells5 (spec_at hb1)
  clear hb1
  go_wp2
  go_ret3
  exact ⟨rfl, HB1.out⟩

theorem pget_int {st p : Nat} {f : Int} (s : ByteArray) (W : World) (hst : st = 1 ∨ st = 2) (hf : f = 2 ∨ f = 3) (hs : s.size ≤ 1000000) (hp : p ≤ s.size) :
    Calls Tryd.prog 45 #[.int .i64 (st : Int), .int .i64 f, .string s, .int .i64 (p : Int)] W fun e w' => e = .returned (pgetV (pget st f.toNat s.data.toList p)) ∧ Below W.heap.size W w' := by
  rcases hf with rfl | rfl
  · exact pget_any st 2 p s W hst (.inl rfl) hs hp
  · exact pget_any st 3 p s W hst (.inr rfl) hs hp

theorem clength_any (st p : Nat) (n c f lo hi : Int) (s : ByteArray) (w : World) (hst : st = 1 ∨ st = 2) (hk : spk n c f lo hi = 0) (hs : s.size ≤ 1000000) (hp : p ≤ s.size) :
    Calls Tryd.prog 21 #[.int .i64 (st : Int), .agg #[.int .i64 n, .int .i64 c, .int .i64 f, .int .i64 lo, .int .i64 hi], .string s, .int .i64 (p : Int)] w fun e w' => e = .returned (pgetV (clen st f lo hi s.data.toList p)) ∧ Below w.heap.size w w' := by
  obtain ⟨_, k1, k2, _⟩ := spk_in hk
  by_cases hf : f = 1
  · subst hf
    rw [clen_fixed]
    have := clength_fixed (st : Int) n c lo hi (p : Int) s w
    unfold pgetV
    dsimp only
    rw [Int.toNat_of_nonneg (by omega)]
    exact this
  · have hf2 : f = 2 ∨ f = 3 := by have := (spk_more hk).1; omega
    have hf1 : (f == 1) = false := by simpa using hf
    have hg := fun W => pget_int s W hst hf2 hs hp
    unfold pgetV at hg
    by_cases h : (pget st f.toNat s.data.toList p).2.2 = 0
    · rw [h] at hg
      by_cases h1 : ((pget st f.toNat s.data.toList p).1 : Int) < lo ∨ hi < ((pget st f.toNat s.data.toList p).1 : Int)
      · rw [clen_range hf h h1]
        exact clength_range (st : Int) n c f lo hi (p : Int) _ _ s w hf1 h1 hg
      · rw [clen_ok hf h h1]
        unfold pgetV
        rw [h]
        exact clength_ok (st : Int) n c f lo hi (p : Int) _ _ s w hf1 h1 hg
    · rw [clen_err hf h]
      exact clength_err (st : Int) n c f lo hi (p : Int) _ _ _ s w hf1 (by simpa using h) hg

end Go.Proofs.YtjmpjdefafkldaaDoor
