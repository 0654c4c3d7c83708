/-
  What the document's Copy of a rule answers: for every rule of up to 5,000,000 pairs, in every world.
-/
import Derived.Test.YthheflgfbdcnlaaGreatDoorRulOf
import Derived.Test.YthheflgfbdcnlaaGreatDoorPackSch
import Derived.Test.YthheflgfbdcnlaaGreatDoorPackCod
namespace Go.Proofs.YthheflgfbdcnlaaGreatDoor
open Go.RowKit

theorem sowns_set5 {w : World} {base e size n p : Nat} {v : Value} {xs : List Value} (h : w.ownsRow base e size v n xs) (hp : p < base) (x y z q r : Value) : (((((w.setCell ⟨p, 0, none⟩ x).setCell ⟨p, 1, none⟩ y).setCell ⟨p, 2, none⟩ z).setCell ⟨p, 3, none⟩ q).setCell ⟨p, 4, none⟩ r).ownsRow base e size v n xs :=
  sowns_set1 (sowns_set1 (sowns_set1 (sowns_set1 (sowns_set1 h hp 0 x) hp 1 y) hp 2 z) hp 3 q) hp 4 r
set_option maxRecDepth 100000 in
set_option maxHeartbeats 3200000 in
theorem rcopy_far (k f t : Int) (s : ByteArray) (B : Option Addr) (cP : Nat) (P : List PairT) (w : World) (hP : Prs w B P) (hn : P.length ≤ 5000000) :
    Calls Tryz.prog 25 #[.agg #[.int .i64 k, .int .i64 f, .int .i64 t, .string s, .slice B P.length cP]] w fun e w' => ∃ B' c', e = .returned (.agg #[.int .i64 k, .int .i64 f, .int .i64 t, .string s, .slice B' P.length c']) ∧ Prs w' B' P ∧ (∀ a, B' = some a → w.heap.size ≤ a.block ∧ a.block < w'.heap.size) ∧ Below w.heap.size w w' := by
  have HC := Lib.hid (fun W h => ccopy_any B cP P W h hn)
  have HPR := Lib.hid (fun (W : World) (base : Nat) (A : Option Addr) (c : Nat) (h : W.ownsRow base _ 2 (.slice A P.length c) P.length (duosC P)) => prs_row h rfl)
  generalize P.length = n at *
  have HBW := Lib.hid (hbt (below_al w (.cells #[.int .i64 k, .int .i64 f, .int .i64 t, .string s, .slice B n cP] 58)) (below_al _ (.cells #[.int .i64 0, .int .i64 0, .int .i64 0, .string ⟨#[]⟩, .slice none 0 0] 58)))
  have HX : Hid (RBox ((w.alloc (.cells #[.int .i64 k, .int .i64 f, .int .i64 t, .string s, .slice B n cP] 58)).alloc (.cells #[.int .i64 0, .int .i64 0, .int .i64 0, .string ⟨#[]⟩, .slice none 0 0] 58)) w.heap.size k f t s B n cP) := obj_below (heap_alloc_new _ _) (below_al _ _)
  have HY : Hid (RBox ((w.alloc (.cells #[.int .i64 k, .int .i64 f, .int .i64 t, .string s, .slice B n cP] 58)).alloc (.cells #[.int .i64 0, .int .i64 0, .int .i64 0, .string ⟨#[]⟩, .slice none 0 0] 58)) (w.heap.size + 1) 0 0 0 ⟨#[]⟩ none 0 0) := heap_al _ _ _ (by simp)
  have HZ : Hid (w.heap.size + 2 = ((w.alloc (.cells #[.int .i64 k, .int .i64 f, .int .i64 t, .string s, .slice B n cP] 58)).alloc (.cells #[.int .i64 0, .int .i64 0, .int .i64 0, .string ⟨#[]⟩, .slice none 0 0] 58)).heap.size) := by show _ = _; simp
  have HP := Lib.hid (hP.below HBW.out)
  clear hP hn
  go_enter Tryz.func25, Tryz.ntmps25
  go_wp2_with fail
  generalize (w.alloc (.cells #[.int .i64 k, .int .i64 f, .int .i64 t, .string s, .slice B n cP] 58)).alloc (.cells #[.int .i64 0, .int .i64 0, .int .i64 0, .string ⟨#[]⟩, .slice none 0 0] 58) = U at *
  refine (HC.out _ HP.out).mono ?_
  rintro e w1 ⟨B', c', rfl, hown, hb1⟩
  have HO1 := Lib.hid hown
  have HX1 := Lib.hid (HX.out.below hb1)
  have HY1 := Lib.hid (HY.out.below hb1)
  have HB1 := Lib.hid (hbt HBW.out hb1)
  clear hown hb1 HX HY HC
  obtain ⟨r0, r1, r2, r3, r4⟩ := obj_cells5 HX1.out
  obtain ⟨g0, g1, g2, g3, g4⟩ := obj_warm5 HX1.out
  have HX2 : Hid (RBox (w1.setCell ⟨w.heap.size, 4, none⟩ (.slice B' n c')) w.heap.size k f t s B' n c') := heap_setCell_same _ _ 4 _ _ _ HX1.out
  have HY2 : Hid (RBox (w1.setCell ⟨w.heap.size, 4, none⟩ (.slice B' n c')) (w.heap.size + 1) 0 0 0 ⟨#[]⟩ none 0 0) := (heap_setCell_other _ _ _ _ (by simp)).trans HY1.out
  obtain ⟨x0, x1, x2, x3, x4⟩ := obj_cells5 HX2.out
  obtain ⟨y0, y1, y2, y3, y4⟩ := obj_cells5 HY2.out
  obtain ⟨z0, z1, z2, z3, z4⟩ := obj_warm5 HY2.out
  have HB2 := Lib.hid (HB1.out.setCell (p := ⟨w.heap.size, 4, none⟩) (Nat.le_refl _) (.slice B' n c'))
  have HO2 := Lib.hid (sowns_set1 HO1.out (by have := HZ.out; omega : w.heap.size < U.heap.size) 4 (.slice B' n c'))
  go_wp2
  refine bodyPost_ret (results_cell_row rfl _ _ (w.heap.size + 1) _ _ _ _ rfl (obj_set5 HY2.out _ _ _ _ _) Tryz.underlying58 rfl (by kernel_rfl)) rfl ?_
  have HO3 := Lib.hid (sowns_set5 (p := w.heap.size + 1) HO2.out (by have := HZ.out; omega) (.int .i64 k) (.int .i64 f) (.int .i64 t) (.string s) (.slice B' n c'))
  exact ⟨B', c', rfl, HPR.out _ _ _ _ HO3.out, fun a ha => by
    have h := HO3.out.lt a.block (by rw [ha]; rfl)
    have := HZ.out
    exact ⟨by omega, h.2⟩, below_set5 HB2.out (by omega) _ _ _ _ _⟩
theorem rcopy_any (k f t : Int) (s : ByteArray) (B : Option Addr) (cP : Nat) (P : List PairT) (w : World) (hP : Prs w B P) (hn : P.length ≤ 5000000) :
    Calls Tryz.prog 25 #[.agg #[.int .i64 k, .int .i64 f, .int .i64 t, .string s, .slice B P.length cP]] w fun e w' => ∃ B' c', e = .returned (.agg #[.int .i64 k, .int .i64 f, .int .i64 t, .string s, .slice B' P.length c']) ∧ Prs w' B' P ∧ Below w.heap.size w w' :=
  (rcopy_far k f t s B cP P w hP hn).mono fun _ _ ⟨B', c', he, hp, _, hb⟩ => ⟨B', c', he, hp, hb⟩

end Go.Proofs.YthheflgfbdcnlaaGreatDoor
