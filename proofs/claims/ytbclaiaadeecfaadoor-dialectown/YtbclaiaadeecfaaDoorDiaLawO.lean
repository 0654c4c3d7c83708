/-
  The law DialectOwn: for every dialect, place and spec, in every world in which the two tables hold the dialects' specs.
-/
import Derived.Test.YtbclaiaadeecfaaDoorDiaAwake
import Derived.Test.YtbclaiaadeecfaaDoorSchSame
namespace Go.Proofs.YtbclaiaadeecfaaDoor
open Go.RowKit

/-- A store into one block leaves a slice of specs in another. -/
theorem spl_far {w u : World} {g : Nat} {A : Option Addr} {l : List Sp} (hu : ∀ q, q ≠ g → u.heap[q]? = w.heap[q]?) (h : Spl w A l) (hA : ∀ a, A = some a → a.block ≠ g) : Spl u A l := by
  intro i hi
  obtain ⟨a, ha, h0, h1, h2, h3, h4⟩ := h i hi
  have hab : (a.add (i * 5)).block = a.block := by unfold Addr.add; split <;> rfl
  have hc : ∀ q : Addr, q.block = a.block → u.cell? q = w.cell? q := fun q hq => World.cell?_of_block (hu _ (by rw [hq]; exact hA a ha))
  exact ⟨a, ha, (hc _ hab).trans h0, (hc ⟨_, (a.add (i * 5)).off + 1, none⟩ hab).trans h1, (hc ⟨_, (a.add (i * 5)).off + 2, none⟩ hab).trans h2, (hc ⟨_, (a.add (i * 5)).off + 3, none⟩ hab).trans h3, (hc ⟨_, (a.add (i * 5)).off + 4, none⟩ hab).trans h4⟩
/-- The five cells of a block at the place of spec number k: there, and not frozen. -/
theorem sps_place {w : World} {g : Nat} {t : TypeId} {L : List Sp} (h : w.heap[g]? = some (.cells (spsC L).toArray t)) {k : Nat} (hk : k < L.length) :
    (w.cell? ⟨g, k * 5, none⟩ = some (.int .i64 (spAt L k).1) ∧ w.frozen? ⟨g, k * 5, none⟩ = false) ∧ (w.cell? ⟨g, k * 5 + 1, none⟩ = some (.int .i64 (spAt L k).2.1) ∧ w.frozen? ⟨g, k * 5 + 1, none⟩ = false) ∧
    (w.cell? ⟨g, k * 5 + 2, none⟩ = some (.int .i64 (spAt L k).2.2.1) ∧ w.frozen? ⟨g, k * 5 + 2, none⟩ = false) ∧ (w.cell? ⟨g, k * 5 + 3, none⟩ = some (.int .i64 (spAt L k).2.2.2.1) ∧ w.frozen? ⟨g, k * 5 + 3, none⟩ = false) ∧
    (w.cell? ⟨g, k * 5 + 4, none⟩ = some (.int .i64 (spAt L k).2.2.2.2) ∧ w.frozen? ⟨g, k * 5 + 4, none⟩ = false) := by
  have hat := spsC_at L k hk
  have hc : ∀ j, w.cell? ⟨g, j, none⟩ = (spsC L)[j]? := fun j => by rw [cell_of_row w g j _ t _ h]; simp
  exact ⟨⟨(hc _).trans (hat 0 (by omega)), frozen_of_row w g _ _ t h⟩, ⟨(hc _).trans (hat 1 (by omega)), frozen_of_row w g _ _ t h⟩, ⟨(hc _).trans (hat 2 (by omega)), frozen_of_row w g _ _ t h⟩, ⟨(hc _).trans (hat 3 (by omega)), frozen_of_row w g _ _ t h⟩, ⟨(hc _).trans (hat 4 (by omega)), frozen_of_row w g _ _ t h⟩⟩

set_option maxRecDepth 100000 in
set_option maxHeartbeats 6400000 in
theorem down_far (b : Bool) (st v : Int) (L : List Sp) (hn : L.length ≤ 1000)
    (hof : ∀ w, Tabs w → Calls Tryd.prog 7 #[.bool b] w fun e w' => ∃ g A c,
      e = .returned (.tuple #[.agg #[.int .i64 st, .int .i64 v, .slice (some ⟨g, 0, none⟩) L.length L.length], .agg #[.int .i64 st, .int .i64 v, .slice A L.length c]]) ∧ Pair w L g A w')
    (p n cl f lo hi : Int) (hp : p < 0 ∨ (L.length : Int) ≤ p) (w : World) (hT : Tabs w) :
    Calls Tryd.prog 5 #[.bool b, .int .i64 p, .agg #[.int .i64 n, .int .i64 cl, .int .i64 f, .int .i64 lo, .int .i64 hi]] w fun e w' => e = .returned (.bool true) ∧ Below w.heap.size w w' := by
  have HOF := Lib.hid hof
  have HSM := Lib.hid (fun A' c' B' d' W h1 h2 => srsame_any st v A' c' L st v B' d' L W h1 h2 hn)
  rw [same_refl] at HSM
  have HT := Lib.hid (hT.below (below_al w (.cells #[.int .i64 n, .int .i64 cl, .int .i64 f, .int .i64 lo, .int .i64 hi] 28)))
  have HB0 := Lib.hid (below_al w (.cells #[.int .i64 n, .int .i64 cl, .int .i64 f, .int .i64 lo, .int .i64 hi] 28))
  clear hof hT
  generalize L.length = len at *
  go_enter Tryd.func5, Tryd.ntmps5
  go_wp2_with fail
  generalize w.alloc (.cells #[.int .i64 n, .int .i64 cl, .int .i64 f, .int .i64 lo, .int .i64 hi] 28) = W0 at *
  refine (HOF.out _ HT.out).mono ?_
  rintro e w1 ⟨g, A, c, rfl, hp1⟩
  have HW := Lib.hid (twins_new w1 st v (some ⟨g, 0, none⟩) len len st v A len c)
  have HP := Lib.hid (hp1.below HW.out.1)
  clear hp1
  go_wp2_with fail
  generalize (w1.alloc (.cells #[.int .i64 st, .int .i64 v, .slice (some ⟨g, 0, none⟩) len len] 24)).alloc (.cells #[.int .i64 st, .int .i64 v, .slice A len c] 24) = U at *
  refine (dawake_any _ (HT.out.below HP.out.2.2.2.2)).mono ?_
  rintro e w2 ⟨rfl, hb2⟩
  have HX2 := Lib.hid hb2
  have HW2 := Lib.hid (HW.out.below hb2)
  have HP2 := Lib.hid (HP.out.below hb2)
  clear hb2
  obtain ⟨b0, b1, b2⟩ := obj_cells3 HW2.out.2.1
  obtain ⟨b3, b4, b5⟩ := obj_cells3 HW2.out.2.2
  have HTX := Lib.hid (HT.out.below HP2.out.2.2.2.2)
  have HBX := Lib.hid HW2.out.2.2
  have HAX := Lib.hid HP2.out.2.2.1
  have HLX := Lib.hid (hbt HB0.out HP2.out.2.2.2.2)
  rcases hp with hp | hp
  · have t1 : decide (0 ≤ p) = false := by simp; omega
    clear hp
    go_wp2_with fail
    clear b0 b1 b2 b3 b4 b5
    refine (HOF.out _ HTX.out).mono ?_
    rintro e w3 ⟨g3, A3, c3, rfl, hp3⟩
    have HW3 := Lib.hid (twins_new w3 st v (some ⟨g3, 0, none⟩) len len st v A3 len c3)
    have HS3 := Lib.hid (hp3.spl.below HW3.out.1)
    have HY3 := Lib.hid (hbt hp3.2.2.2.2 HW3.out.1)
    obtain ⟨e3, e4, e5⟩ := obj_cells3 (HBX.out.below hp3.2.2.2.2)
    have hz := obj_lt (HBX.out.below hp3.2.2.2.2)
    have hz1 : w1.heap.size < w3.heap.size := by omega
    clear hp3
    go_wp2_with fail
    refine (HSM.out _ _ _ _ _ HS3.out (HAX.out.below HY3.out)).mono ?_
    rintro e w4 ⟨rfl, hb4⟩
    have HB4 := Lib.hid (hbt (hbt HLX.out HY3.out) hb4)
    clear hb4 e3 e4 e5 hz hz1
    go_wp2
    go_ret
    exact ⟨rfl, HB4.out⟩
  · have t1 : decide (0 ≤ p) = true := by simp; omega
    have t2 : decide (p < (len : Int)) = false := by simp; omega
    clear hp
    go_wp2_with fail
    clear b0 b1 b2 b3 b4 b5
    refine (HOF.out _ HTX.out).mono ?_
    rintro e w3 ⟨g3, A3, c3, rfl, hp3⟩
    have HW3 := Lib.hid (twins_new w3 st v (some ⟨g3, 0, none⟩) len len st v A3 len c3)
    have HS3 := Lib.hid (hp3.spl.below HW3.out.1)
    have HY3 := Lib.hid (hbt hp3.2.2.2.2 HW3.out.1)
    obtain ⟨e3, e4, e5⟩ := obj_cells3 (HBX.out.below hp3.2.2.2.2)
    have hz := obj_lt (HBX.out.below hp3.2.2.2.2)
    have hz1 : w1.heap.size < w3.heap.size := by omega
    clear hp3
    go_wp2_with fail
    refine (HSM.out _ _ _ _ _ HS3.out (HAX.out.below HY3.out)).mono ?_
    rintro e w4 ⟨rfl, hb4⟩
    have HB4 := Lib.hid (hbt (hbt HLX.out HY3.out) hb4)
    clear hb4 e3 e4 e5 hz hz1
    go_wp2
    go_ret
    exact ⟨rfl, HB4.out⟩

set_option maxRecDepth 100000 in
set_option maxHeartbeats 6400000 in
theorem down_in (b : Bool) (st v : Int) (L : List Sp) (hn : L.length ≤ 1000)
    (hof : ∀ w, Tabs w → Calls Tryd.prog 7 #[.bool b] w fun e w' => ∃ g A c,
      e = .returned (.tuple #[.agg #[.int .i64 st, .int .i64 v, .slice (some ⟨g, 0, none⟩) L.length L.length], .agg #[.int .i64 st, .int .i64 v, .slice A L.length c]]) ∧ Pair w L g A w')
    (k : Nat) (n cl f lo hi : Int) (hk : k < L.length) (w : World) (hT : Tabs w) :
    Calls Tryd.prog 5 #[.bool b, .int .i64 (k : Int), .agg #[.int .i64 n, .int .i64 cl, .int .i64 f, .int .i64 lo, .int .i64 hi]] w fun e w' => e = .returned (.bool true) ∧ Below w.heap.size w w' := by
  have HOF := Lib.hid hof
  have HSM := Lib.hid (fun A' c' B' d' W h1 h2 => srsame_any st v A' c' L st v B' d' L W h1 h2 hn)
  rw [same_refl] at HSM
  have HT := Lib.hid (hT.below (below_al w (.cells #[.int .i64 n, .int .i64 cl, .int .i64 f, .int .i64 lo, .int .i64 hi] 28)))
  have HB0 := Lib.hid (below_al w (.cells #[.int .i64 n, .int .i64 cl, .int .i64 f, .int .i64 lo, .int .i64 hi] 28))
  have HN0 := Lib.hid (heap_alloc_new w (.cells #[.int .i64 n, .int .i64 cl, .int .i64 f, .int .i64 lo, .int .i64 hi] 28))
  clear hof hT
  have HAT := Lib.hid (fun (W : World) (g : Nat) (t : TypeId) (h : W.heap[g]? = some (.cells (spsC L).toArray t)) => sps_place h hk)
  generalize L.length = len at *
  go_enter Tryd.func5, Tryd.ntmps5
  go_wp2_with fail
  generalize w.alloc (.cells #[.int .i64 n, .int .i64 cl, .int .i64 f, .int .i64 lo, .int .i64 hi] 28) = W0 at *
  refine (HOF.out _ HT.out).mono ?_
  rintro e w1 ⟨g, A, c, rfl, hp1⟩
  have HW := Lib.hid (twins_new w1 st v (some ⟨g, 0, none⟩) len len st v A len c)
  have HP := Lib.hid (hp1.below HW.out.1)
  have HGL := Lib.hid (obj_lt hp1.2.1.choose_spec)
  clear hp1
  go_wp2_with fail
  generalize (w1.alloc (.cells #[.int .i64 st, .int .i64 v, .slice (some ⟨g, 0, none⟩) len len] 24)).alloc (.cells #[.int .i64 st, .int .i64 v, .slice A len c] 24) = U at *
  refine (dawake_any _ (HT.out.below HP.out.2.2.2.2)).mono ?_
  rintro e w2 ⟨rfl, hb2⟩
  have HX2 := Lib.hid hb2
  have HW2 := Lib.hid (HW.out.below hb2)
  have HP2 := Lib.hid (HP.out.below hb2)
  clear hb2
  obtain ⟨b0, b1, b2⟩ := obj_cells3 HW2.out.2.1
  obtain ⟨b3, b4, b5⟩ := obj_cells3 HW2.out.2.2
  obtain ⟨t, ht⟩ := HP2.out.2.1
  have HG := Lib.hid ht
  clear ht
  obtain ⟨⟨c0, f0⟩, ⟨c1, f1⟩, ⟨c2, f2⟩, ⟨c3, f3⟩, ⟨c4, f4⟩⟩ := HAT.out _ _ _ HG.out
  obtain ⟨n0, n1, n2, n3, n4⟩ := obj_cells5 (obj_below HN0.out HP2.out.2.2.2.2)
  have hgn : g ≠ w1.heap.size := by have := HGL.out; omega
  go_wp2_with fail
  have hfar : ∀ q, q ≠ g → (((((w2.setCell ⟨g, k * 5, none⟩ (.int .i64 n)).setCell ⟨g, k * 5 + 1, none⟩ (.int .i64 cl)).setCell ⟨g, k * 5 + 2, none⟩ (.int .i64 f)).setCell ⟨g, k * 5 + 3, none⟩ (.int .i64 lo)).setCell ⟨g, k * 5 + 4, none⟩ (.int .i64 hi)).heap[q]? = w2.heap[q]? := fun q hq => by
    rw [heap_setCell_other _ _ _ _ hq, heap_setCell_other _ _ _ _ hq, heap_setCell_other _ _ _ _ hq, heap_setCell_other _ _ _ _ hq, heap_setCell_other _ _ _ _ hq]
  have HX : Hid (Below W0.heap.size W0 (((((w2.setCell ⟨g, k * 5, none⟩ (.int .i64 n)).setCell ⟨g, k * 5 + 1, none⟩ (.int .i64 cl)).setCell ⟨g, k * 5 + 2, none⟩ (.int .i64 f)).setCell ⟨g, k * 5 + 3, none⟩ (.int .i64 lo)).setCell ⟨g, k * 5 + 4, none⟩ (.int .i64 hi))) :=
    ((((HP2.out.2.2.2.2.setCell (p := ⟨g, _, none⟩) HP2.out.1 _).setCell (p := ⟨g, _, none⟩) HP2.out.1 _).setCell (p := ⟨g, _, none⟩) HP2.out.1 _).setCell (p := ⟨g, _, none⟩) HP2.out.1 _).setCell (p := ⟨g, _, none⟩) HP2.out.1 _
  generalize ((((w2.setCell ⟨g, k * 5, none⟩ (.int .i64 n)).setCell ⟨g, k * 5 + 1, none⟩ (.int .i64 cl)).setCell ⟨g, k * 5 + 2, none⟩ (.int .i64 f)).setCell ⟨g, k * 5 + 3, none⟩ (.int .i64 lo)).setCell ⟨g, k * 5 + 4, none⟩ (.int .i64 hi) = X at *
  have HTX := Lib.hid (HT.out.below HX.out)
  have HBX : Hid (Box X (w1.heap.size + 1) st v A len c) := (hfar _ (by have := HGL.out; omega)).trans HW2.out.2.2
  have HAX := Lib.hid (spl_far hfar HP2.out.2.2.1 HP2.out.2.2.2.1)
  have HLX := Lib.hid (hbt HB0.out HX.out)
  clear b0 b1 b2 b3 b4 b5 c0 c1 c2 c3 c4 f0 f1 f2 f3 f4 n0 n1 n2 n3 n4 hfar
  refine (HOF.out _ HTX.out).mono ?_
  rintro e w3 ⟨g3, A3, c3, rfl, hp3⟩
  have HW3 := Lib.hid (twins_new w3 st v (some ⟨g3, 0, none⟩) len len st v A3 len c3)
  have HS3 := Lib.hid (hp3.spl.below HW3.out.1)
  have HY3 := Lib.hid (hbt hp3.2.2.2.2 HW3.out.1)
  obtain ⟨e3, e4, e5⟩ := obj_cells3 (HBX.out.below hp3.2.2.2.2)
  have hz := obj_lt (HBX.out.below hp3.2.2.2.2)
  have hz1 : w1.heap.size < w3.heap.size := by omega
  clear hp3
  go_wp2_with fail
  refine (HSM.out _ _ _ _ _ HS3.out (HAX.out.below HY3.out)).mono ?_
  rintro e w4 ⟨rfl, hb4⟩
  have HB4 := Lib.hid (hbt (hbt HLX.out HY3.out) hb4)
  clear hb4 e3 e4 e5 hz hz1
  go_wp2
  go_ret
  exact ⟨rfl, HB4.out⟩

theorem down_walk (b : Bool) (p : Int) (n cl f lo hi : Int) (w : World) (hT : Tabs w) (_h1 : -9223372036854775808 ≤ p) (_h2 : p ≤ 9223372036854775807) :
    Calls Tryd.prog 5 #[.bool b, .int .i64 p, .agg #[.int .i64 n, .int .i64 cl, .int .i64 f, .int .i64 lo, .int .i64 hi]] w fun e w' => e = .returned (.bool true) ∧ Below w.heap.size w w' := by
  obtain ⟨st, v, L, _, hn, hof⟩ := dof_any b
  by_cases hp : p < 0 ∨ (L.length : Int) ≤ p
  · exact down_far b st v L hn hof p n cl f lo hi hp w hT
  · obtain ⟨k, rfl⟩ := Int.eq_ofNat_of_zero_le (show 0 ≤ p by omega)
    exact down_in b st v L hn hof k n cl f lo hi (by omega) w hT

end Go.Proofs.YtbclaiaadeecfaaDoor
