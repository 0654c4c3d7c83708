/-
  CellParts: for every input, in every world in which the table of kinds stands as the program's text lays it.
-/
import Derived.Test.YtjmpjdefafkldaaDoorCelAwake
namespace Go.Proofs.YtjmpjdefafkldaaDoor
open Go.RowKit

/-- A spec and two texts in the first blocks that the call makes. -/
def SpPair (w : World) (n c f lo hi : Int) (a b : ByteArray) (u : World) : Prop :=
  Below w.heap.size w u ∧ u.heap[w.heap.size]? = some (.cells #[.int .i64 n, .int .i64 c, .int .i64 f, .int .i64 lo, .int .i64 hi] 23) ∧ u.heap[w.heap.size + 1]? = some (.cells #[.string a, .string b] 35)
theorem SpPair.below {w : World} {n c f lo hi : Int} {a b : ByteArray} {u u' : World} (h : SpPair w n c f lo hi a b u) (hb : Below u.heap.size u u') : SpPair w n c f lo hi a b u' :=
  ⟨hbt h.1 hb, obj_below h.2.1 hb, obj_below h.2.2 hb⟩
theorem spPair_new (w : World) (n c f lo hi : Int) (a b : ByteArray) : SpPair w n c f lo hi a b ((w.alloc (.cells #[.int .i64 n, .int .i64 c, .int .i64 f, .int .i64 lo, .int .i64 hi] 23)).alloc (.cells #[.string a, .string b] 35)) :=
  ⟨hbt (below_al _ _) (below_al _ _), obj_below (heap_alloc_new _ _) (below_al _ _), heap_al _ _ _ (by simp)⟩
theorem SpPair.cells {w : World} {n c f lo hi : Int} {a b : ByteArray} {u : World} (h : SpPair w n c f lo hi a b u) :
    (u.cell? ⟨w.heap.size, 0, none⟩ = some (.int .i64 n) ∧ u.cell? ⟨w.heap.size, 1, none⟩ = some (.int .i64 c) ∧ u.cell? ⟨w.heap.size, 2, none⟩ = some (.int .i64 f) ∧ u.cell? ⟨w.heap.size, 3, none⟩ = some (.int .i64 lo) ∧ u.cell? ⟨w.heap.size, 4, none⟩ = some (.int .i64 hi)) ∧
    (u.cell? ⟨w.heap.size + 1, 0, none⟩ = some (.string a) ∧ u.cell? ⟨w.heap.size + 1, 1, none⟩ = some (.string b)) :=
  ⟨obj_cells5 h.2.1, (obj_cells h.2.2).1, (obj_cells h.2.2).2.1⟩

set_option maxRecDepth 100000 in
set_option maxHeartbeats 3200000 in
theorem cparts_long (n c f lo hi : Int) (s a b : ByteArray) (w : World) (hw : Kinds w) (hm : s.size ≤ maxLen) (ha : a.size ≤ maxLen) (hb : b.size ≤ maxLen) (h : 2500 < s.size ∨ 100 < a.size ∨ 100 < b.size) :
    Calls Tryd.prog 7 #[.agg #[.int .i64 n, .int .i64 c, .int .i64 f, .int .i64 lo, .int .i64 hi], .string s, .agg #[.string a, .string b]] w fun e w' => e = .returned (.bool true) ∧ Below w.heap.size w w' := by
  unfold maxLen at hm ha hb
  have HA := Lib.hid (fun W hW => cawake_any W hW)
  have HS0 := Lib.hid (spPair_new w n c f lo hi a b)
  have HW := Lib.hid hw
  clear hw
  by_cases h1 : 2500 < s.size
  · have t1 : decide ((2500 : Int) < (s.size : Int)) = true := by simp; omega
    clear h h1
    go_enter Tryd.func7, Tryd.ntmps7
    go_wp2_with fail
    refine (HA.out _ (HW.out.below HS0.out.1)).mono ?_
    rintro e w1 ⟨rfl, hb1⟩
    have HS1 := Lib.hid (HS0.out.below hb1)
    clear hb1
    go_wp2_with fail
    refine (HA.out _ (HW.out.below HS1.out.1)).mono ?_
    rintro e w2 ⟨rfl, hb2⟩
    have HS2 := Lib.hid (HS1.out.below hb2)
    clear hb2
    go_wp2
    go_ret
    exact ⟨rfl, HS2.out.1⟩
  have t1 : decide ((2500 : Int) < (s.size : Int)) = false := by simp; omega
  by_cases h2 : 100 < a.size
  · have t2 : decide ((100 : Int) < (a.size : Int)) = true := by simp; omega
    clear h h1 h2
    go_enter Tryd.func7, Tryd.ntmps7
    go_wp2_with fail
    refine (HA.out _ (HW.out.below HS0.out.1)).mono ?_
    rintro e w1 ⟨rfl, hb1⟩
    have HS1 := Lib.hid (HS0.out.below hb1)
    clear hb1
    obtain ⟨⟨c0, c1, c2, c3, c4⟩, d0, d1⟩ := HS1.out.cells
    go_wp2_with fail
    refine (HA.out _ (HW.out.below HS1.out.1)).mono ?_
    rintro e w2 ⟨rfl, hb2⟩
    have HS2 := Lib.hid (HS1.out.below hb2)
    clear hb2 c0 c1 c2 c3 c4 d0 d1
    go_wp2
    go_ret
    exact ⟨rfl, HS2.out.1⟩
  have t2 : decide ((100 : Int) < (a.size : Int)) = false := by simp; omega
  have t3 : decide ((100 : Int) < (b.size : Int)) = true := by simp; omega
  clear h h1 h2
  go_enter Tryd.func7, Tryd.ntmps7
  go_wp2_with fail
  refine (HA.out _ (HW.out.below HS0.out.1)).mono ?_
  rintro e w1 ⟨rfl, hb1⟩
  have HS1 := Lib.hid (HS0.out.below hb1)
  clear hb1
  obtain ⟨⟨c0, c1, c2, c3, c4⟩, d0, d1⟩ := HS1.out.cells
  go_wp2_with fail
  refine (HA.out _ (HW.out.below HS1.out.1)).mono ?_
  rintro e w2 ⟨rfl, hb2⟩
  have HS2 := Lib.hid (HS1.out.below hb2)
  clear hb2 c0 c1 c2 c3 c4 d0 d1
  go_wp2
  go_ret
  exact ⟨rfl, HS2.out.1⟩

/-- What Get answers, in every world. -/
def CGets (k : Nat) (n c f lo hi : Int) (b : ByteArray) (p : Int) (t : ByteArray) (q : Nat) (e : Int) : Prop :=
  ∀ W, Kinds W → Calls Tryd.prog 11 #[.int .i64 (k : Int), .agg #[.int .i64 n, .int .i64 c, .int .i64 f, .int .i64 lo, .int .i64 hi], .string b, .int .i64 p] W fun e' w' => e' = .returned (.tuple #[.string t, .int .i64 (q : Int), .int .i64 e]) ∧ Below W.heap.size W w'
/-- What stands ahead and behind plays no part, by the style k. -/
def CAround (k : Nat) (n c f lo hi : Int) (s a b : ByteArray) : Prop :=
  (∃ e : Int, e ≠ 0 ∧ CGets k n c f lo hi s 0 ⟨#[]⟩ 0 e ∧ CGets k n c f lo hi (a ++ s) (a.size : Int) ⟨#[]⟩ 0 e) ∨
  (∃ (t : ByteArray) (q : Nat), q ≤ 2500 ∧ CGets k n c f lo hi s 0 t q 0 ∧ CGets k n c f lo hi (a ++ s) (a.size : Int) t (q + a.size) 0 ∧ CGets k n c f lo hi (s ++ b) 0 t q 0)

theorem caround_any (k : Nat) (n c f lo hi : Int) (s a b : ByteArray) (hk : k = 1 ∨ k = 2) (hs : s.size ≤ 2500) (ha : a.size ≤ 100) (hb : b.size ≤ 100) : CAround k n c f lo hi s a b := by
  have z1 : (a ++ s).size = a.size + s.size := ByteArray.size_append
  have z2 : (s ++ b).size = s.size + b.size := ByteArray.size_append
  by_cases h : spk n c f lo hi = 0
  · have g1 : ∀ W, Kinds W → _ := fun W hW => cget_any k 0 n c f lo hi s W hW hk h (by omega) (by omega)
    have g2 : ∀ W, Kinds W → _ := fun W hW => cget_any k a.size n c f lo hi (a ++ s) W hW hk h (by omega) (by omega)
    have g3 : ∀ W, Kinds W → _ := fun W hW => cget_any k 0 n c f lo hi (s ++ b) W hW hk h (by omega) (by omega)
    have e2 := cget_shift k n c f lo hi a s 0
    rw [Nat.add_zero] at e2
    rw [e2] at g2
    by_cases he : (cget k n c f lo hi s 0).2.2 = 0
    · rw [cget_more b he] at g3
      rw [if_pos he] at g2
      obtain ⟨a', q', t', _, h2, _, _, h5⟩ := cget_zero he
      generalize q' + csz (cway k c) a' = z at h2 h5
      unfold cgetV at g1 g2 g3
      rw [h5] at g1 g2 g3
      dsimp only at g1 g2 g3
      rw [Nat.add_comm a.size z] at g2
      exact .inr ⟨t', z, by omega, g1, g2, g3⟩
    · rw [if_neg he] at g2
      obtain ⟨i1, i2⟩ := cget_err he
      unfold cgetV at g1 g2
      rw [i1, i2] at g1 g2
      exact .inl ⟨_, he, g1, g2⟩
  · have hk' : (k : Int) = 1 ∨ (k : Int) = 2 := by omega
    exact .inl ⟨1, by decide, fun W _ => cgw_check (k : Int) n c f lo hi 0 s W hk' h, fun W _ => cgw_check (k : Int) n c f lo hi (a.size : Int) (a ++ s) W hk' h⟩

set_option maxRecDepth 100000 in
set_option maxHeartbeats 6400000 in
theorem cparts_short (n c f lo hi : Int) (s a b : ByteArray) (w : World) (hw : Kinds w) (hs : s.size ≤ 2500) (ha : a.size ≤ 100) (hb : b.size ≤ 100) :
    Calls Tryd.prog 7 #[.agg #[.int .i64 n, .int .i64 c, .int .i64 f, .int .i64 lo, .int .i64 hi], .string s, .agg #[.string a, .string b]] w fun e w' => e = .returned (.bool true) ∧ Below w.heap.size w w' := by
  have HA := Lib.hid (fun W hW => cawake_any W hW)
  have HR := Lib.hid (fun k hk => caround_any k n c f lo hi s a b hk hs ha hb)
  have HS0 := Lib.hid (spPair_new w n c f lo hi a b)
  have HW := Lib.hid hw
  have t1 : decide ((2500 : Int) < (s.size : Int)) = false := by simp; omega
  have t2 : decide ((100 : Int) < (a.size : Int)) = false := by simp; omega
  have t3 : decide ((100 : Int) < (b.size : Int)) = false := by simp; omega
  have hadd1 : ∀ W : World, (Op.stringOp .add a s).run Tryd.prog W = .ok (.string (a ++ s)) W := fun W => run_string_add_sum W a s (by omega)
  have hadd2 : ∀ W : World, (Op.stringOp .add s b).run Tryd.prog W = .ok (.string (s ++ b)) W := fun W => run_string_add_sum W s b (by omega)
  clear hw hs hb
  go_enter Tryd.func7, Tryd.ntmps7
  go_wp2_with fail
  refine (HA.out _ (HW.out.below HS0.out.1)).mono ?_
  rintro e w1 ⟨rfl, hb1⟩
  have HS1 := Lib.hid (HS0.out.below hb1)
  clear hb1
  obtain ⟨⟨c0, c1, c2, c3, c4⟩, d0, d1⟩ := HS1.out.cells
  go_wp2
  clear c0 c1 c2 c3 c4 d0 d1 t1 t2 t3
  go_loopw [7] (fun v wr => ∃ k : Nat, 1 ≤ k ∧ k ≤ 3 ∧ v = .int .i64 (k : Int) ∧ SpPair w n c f lo hi a b wr) (fun v _ => 3 - (intOf v).toNat)
  case atStart => exact ⟨1, by omega, by omega, rfl, HS1.out⟩
  case round =>
    obtain ⟨k, hk1, hk3, rfl, hS⟩ := hrel
    have HS2 := Lib.hid hS
    clear hS
    by_cases hk : k ≤ 2
    · obtain ⟨⟨c0, c1, c2, c3, c4⟩, d0, d1⟩ := HS2.out.cells
      have u1 : decide ((k : Int) ≤ 2) = true := by simp; omega
      have HK := Lib.hid hk1
      clear hk1 hk3
      rcases HR.out k (by have := HK.out; omega) with ⟨e, he, g1, g2⟩ | ⟨t, q, hq, g1, g2, g3⟩
      · unfold CGets at g1 g2
        have G1 := Lib.hid g1
        have G2 := Lib.hid g2
        have v1 : (e == 0) = false := by simpa using he
        have v2 : (e != 0) = true := by simpa using he
        clear g1 g2 he
        go_wp2_with fail
        refine (G1.out _ (HW.out.below HS2.out.1)).mono ?_
        rintro e' w3 ⟨rfl, hb3⟩
        have HS3 := Lib.hid (HS2.out.below hb3)
        clear hb3 c0 c1 c2 c3 c4 d0 d1
        obtain ⟨⟨c0, c1, c2, c3, c4⟩, d0, d1⟩ := HS3.out.cells
        go_wp2_with fail
        refine (G2.out _ (HW.out.below HS3.out.1)).mono ?_
        rintro e' w4 ⟨rfl, hb4⟩
        have HS4 := Lib.hid (HS3.out.below hb4)
        clear hb4 c0 c1 c2 c3 c4 d0 d1
        obtain ⟨⟨c0, c1, c2, c3, c4⟩, d0, d1⟩ := HS4.out.cells
        go_wp2
        go_roundw
        case rel => exact ⟨k + 1, by omega, by omega, by go_num, HS4.out⟩
        case measure =>
          show 3 - ((k : Int) + 1).toNat < 3 - (k : Int).toNat
          omega
      · unfold CGets at g1 g2 g3
        have G1 := Lib.hid g1
        have G2 := Lib.hid g2
        have G3 := Lib.hid g3
        clear g1 g2 g3
        go_wp2_with fail
        refine (G1.out _ (HW.out.below HS2.out.1)).mono ?_
        rintro e' w3 ⟨rfl, hb3⟩
        have HS3 := Lib.hid (HS2.out.below hb3)
        clear hb3 c0 c1 c2 c3 c4 d0 d1
        obtain ⟨⟨c0, c1, c2, c3, c4⟩, d0, d1⟩ := HS3.out.cells
        go_wp2_with fail
        refine (G2.out _ (HW.out.below HS3.out.1)).mono ?_
        rintro e' w4 ⟨rfl, hb4⟩
        have HS4 := Lib.hid (HS3.out.below hb4)
        clear hb4 c0 c1 c2 c3 c4 d0 d1
        obtain ⟨⟨c0, c1, c2, c3, c4⟩, d0, d1⟩ := HS4.out.cells
        go_wp2_with fail
        refine (G3.out _ (HW.out.below HS4.out.1)).mono ?_
        rintro e' w5 ⟨rfl, hb5⟩
        have HS5 := Lib.hid (HS4.out.below hb5)
        clear hb5 c0 c1 c2 c3 c4 d0 d1
        go_wp2
        go_roundw
        case rel => exact ⟨k + 1, by omega, by omega, by go_num, HS5.out⟩
        case measure =>
          show 3 - ((k : Int) + 1).toNat < 3 - (k : Int).toNat
          omega
    · have u1 : decide ((k : Int) ≤ 2) = false := by simp; omega
      go_wp2
      go_ret
      exact ⟨rfl, HS2.out.1⟩
theorem cparts_walk (n c f lo hi : Int) (s a b : ByteArray) (w : World) (hw : Kinds w) (hm : s.size ≤ maxLen) (ha : a.size ≤ maxLen) (hb : b.size ≤ maxLen) :
    Calls Tryd.prog 7 #[.agg #[.int .i64 n, .int .i64 c, .int .i64 f, .int .i64 lo, .int .i64 hi], .string s, .agg #[.string a, .string b]] w fun e w' => e = .returned (.bool true) ∧ Below w.heap.size w w' := by
  by_cases h : 2500 < s.size ∨ 100 < a.size ∨ 100 < b.size
  · exact cparts_long n c f lo hi s a b w hw hm ha hb h
  · exact cparts_short n c f lo hi s a b w hw (by omega) (by omega) (by omega)

end Go.Proofs.YtjmpjdefafkldaaDoor
