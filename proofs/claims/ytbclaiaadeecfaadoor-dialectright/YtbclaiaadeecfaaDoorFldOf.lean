/-
  What Of answers: for every list of numbers, in every world.
-/
import Derived.Test.YtbclaiaadeecfaaDoorFldRef
namespace Go.Proofs.YtbclaiaadeecfaaDoor
open Go.RowKit

theorem ints_two (w : World) (a b : Int) (t : TypeId) : Ints (w.alloc (.cells #[.int .i64 a, .int .i64 b] t)) (some ⟨w.heap.size, 0, none⟩) [a, b] := by
  intro i hi
  refine ⟨_, rfl, ?_⟩
  rw [show (⟨w.heap.size, 0, none⟩ : Addr).add i = ⟨w.heap.size, i, none⟩ from by rw [Addr.add_lit, Nat.zero_add], cell_of_row _ _ i _ t _ (heap_alloc_new w _)]
  match i, hi with
  | 0, _ => rfl
  | 1, _ => rfl
theorem ints_one (w : World) (a : Int) (t : TypeId) : Ints (w.alloc (.cells #[.int .i64 a] t)) (some ⟨w.heap.size, 0, none⟩) [a] := by
  intro i hi
  refine ⟨_, rfl, ?_⟩
  rw [show (⟨w.heap.size, 0, none⟩ : Addr).add i = ⟨w.heap.size, i, none⟩ from by rw [Addr.add_lit, Nat.zero_add], cell_of_row _ _ i _ t _ (heap_alloc_new w _)]
  match i, hi with
  | 0, _ => rfl

theorem of_take (zs : List Int) (k : Nat) (hk : k < zs.length) : ofH (zs.take (k + 1)) = ofH (zs.take k) ||| aH (zs.getD k 0) ∧ ofL (zs.take (k + 1)) = ofL (zs.take k) ||| aL (zs.getD k 0) := by
  rw [List.take_succ_eq_append_getElem hk, getD_get zs k hk]
  exact of_snoc _ _

set_option maxRecDepth 100000 in
set_option maxHeartbeats 1600000 in
theorem of_any (A : Option Addr) (cap : Nat) (zs : List Int) (w : World) (hI : Ints w A zs) (hz : zs.length ≤ 1000) :
    Calls Tryd.prog 23 #[.slice A zs.length cap] w fun e w' => e = .returned (setV (ofH zs) (ofL zs)) ∧ Below w.heap.size w w' := by
  have HI := Lib.hid hI; clear hI
  have HW := Lib.hid (fun (k : Nat) (n : Int) W => with_any (ofH (zs.take k)) (ofL (zs.take k)) n W (of_lt _).1 (of_lt _).2)
  unfold setV at HW
  go_enter Tryd.func23, Tryd.ntmps23
  go_wp2
  go_loopw [5, 8] (fun _ i wr => ∃ k : Nat, k ≤ zs.length ∧ i = .int .i64 (k : Int) ∧ wr.heap[w.heap.size + 1]? = some (setO (ofH (zs.take k)) (ofL (zs.take k))) ∧ wr.heap[w.heap.size]? = some (setO 0 0) ∧ Below w.heap.size w wr) (fun _ i _ => zs.length - (intOf i).toNat)
  case atStart => exact ⟨0, Nat.zero_le _, rfl, heap_alloc2_new _ _ _, heap_alloc2_old _ _ _, hbt (below_al _ _) (below_al _ _)⟩
  case round =>
    obtain ⟨k, hk, rfl, h1, h0, hb⟩ := hrel
    by_cases hlt : k < zs.length
    · obtain ⟨a, rfl, hc⟩ := HI.out.below hb k hlt
      have ho := of_take zs k hlt
      generalize zs.getD k 0 = v at *
      have hw := HW.out k v
      generalize ofH (zs.take k) = x at *
      generalize ofL (zs.take k) = y at *
      generalize x ||| aH v = x' at *
      generalize y ||| aL v = y' at *
      have HO := Lib.hid ho
      have HV := Lib.hid hw
      have H1 := Lib.hid h1
      have H0 := Lib.hid h0
      obtain ⟨c0, c1, _, _⟩ := obj_cells h1
      clear ho hw h1 h0
      go_wp2_with fail
      refine (HV.out _).mono ?_
      rintro e w1 ⟨rfl, hb1⟩
      have hs1 := obj_below H1.out hb1
      have H3 := Lib.hid hs1
      have H2 := Lib.hid (obj_below H0.out hb1)
      have HB := Lib.hid (hbt hb hb1)
      obtain ⟨c2, c3, f2, f3⟩ := obj_cells hs1
      clear hs1 hb1 c0 c1
      go_wp2
      go_roundw
      case rel =>
        refine ⟨k + 1, by omega, by go_num, ?_, ?_, ?_⟩
        · rw [HO.out.1, HO.out.2]; exact obj_set2 H3.out _ _
        · rw [heap_setCell_other _ _ _ _ (by simp), heap_setCell_other _ _ _ _ (by simp)]; exact H2.out
        · exact (HB.out.setCell (p := ⟨w.heap.size + 1, 0, none⟩) (by simp) _).setCell (p := ⟨w.heap.size + 1, 1, none⟩) (by simp) _
      case measure => simp [intOf]; omega
    · have hk2 : k = zs.length := by omega
      have he : zs.take k = zs := by rw [hk2]; exact List.take_of_length_le (Nat.le_refl _)
      rw [he] at h1
      have HE := Lib.hid he
      obtain ⟨c0, c1, _, _⟩ := obj_cells h1
      obtain ⟨c2, c3, f2, f3⟩ := obj_cells h0
      have H0 := Lib.hid h0
      clear h1 h0 he hk2
      generalize hx : ofH zs = x at *
      generalize hy : ofL zs = y at *
      have HX := Lib.hid hx
      have HY := Lib.hid hy
      clear hx hy
      go_wp2
      refine bodyPost_ret (results_cell_row rfl _ _ w.heap.size _ _ _ _ rfl (obj_set2 H0.out _ _) Tryd.underlying41 rfl (by kernel_rfl)) rfl ?_
      exact ⟨by rw [HX.out, HY.out]; rfl, (hb.setCell (p := ⟨w.heap.size, 0, none⟩) (by simp) _).setCell (p := ⟨w.heap.size, 1, none⟩) (by simp) _⟩

end Go.Proofs.YtbclaiaadeecfaaDoor
