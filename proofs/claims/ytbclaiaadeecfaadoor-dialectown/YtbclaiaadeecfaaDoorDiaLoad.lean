/-
  What Acquirer and Issuer answer: in every world in which the two tables hold the dialects' specs.
-/
import Derived.Test.YtbclaiaadeecfaaDoorDiaMath
import Derived.Test.YtbclaiaadeecfaaDoorSchOf
import Derived.Deep.WholeRow
namespace Go.Proofs.YtbclaiaadeecfaaDoor
open Go.RowKit

/-- A block that holds these specs, as a table. -/
def Table (w : World) (g : Nat) (l : List Sp) : Prop := ∃ t fr, w.heap[g]? = some (.cells (spsC l).toArray t fr)
/-- The two tables of the program. -/
def Tabs (w : World) : Prop := Table w 0 acqL ∧ Table w 1 issL
theorem Tabs.below {w w' : World} (h : Tabs w) (hb : Below w.heap.size w w') : Tabs w' := by
  obtain ⟨⟨t, fr, h1⟩, ⟨t', fr', h2⟩⟩ := h
  exact ⟨⟨t, fr, obj_below h1 hb⟩, ⟨t', fr', obj_below h2 hb⟩⟩
theorem sps_all (l : List Sp) : (spsC l).toArray.all (·.oneCell') = true := by
  rw [Array.all_eq_true_iff_forall_mem]
  intro v hv
  exact sps_one l v (by simpa using hv)
theorem sps_size (l : List Sp) : (spsC l).toArray.size = l.length * 5 := by simp [spsC_length]

theorem Tryd.zeroA : (Tryd.prog.info? 55).map (fun i => (i.zero, i.size)) = some (some (.agg (Array.replicate 140 (.int .i64 0))), 140) := by kernel_rfl
theorem Tryd.zeroI : (Tryd.prog.info? 56).map (fun i => (i.zero, i.size)) = some (some (.agg (Array.replicate 130 (.int .i64 0))), 130) := by kernel_rfl

theorem setRow_next (w : World) (A : Obj) (z cs : Array Value) (t : TypeId) : ((w.alloc A).alloc (.cells z t)).setRow (w.heap.size + 1) cs = (w.alloc A).alloc (.cells cs t) := by
  have := World.setRow_alloc_new (w.alloc A) z cs t
  rwa [show (w.alloc A).heap.size = w.heap.size + 1 by simp] at this

set_option maxRecDepth 100000 in
set_option maxHeartbeats 1600000 in
theorem acq_any (w : World) (hT : Tabs w) :
    Calls Tryd.prog 19 #[] w fun e w' => ∃ g, e = .returned (.agg #[.int .i64 1, .int .i64 0, .slice (some ⟨g, 0, none⟩) 28 28]) ∧ w.heap.size ≤ g ∧ w'.heap[g]? = some (.cells (spsC acqL).toArray 55) ∧ Below w.heap.size w w' := by
  obtain ⟨t, fr, hg⟩ := hT.1
  have hs : (spsC acqL).toArray.size = 140 := by rw [sps_size]; rfl
  have ho := sps_all acqL
  obtain ⟨hz, hi⟩ := zero_of_info Tryd.zeroA
  generalize (spsC acqL).toArray = cs at *
  have HG := Lib.hid hg
  have HO := Lib.hid ho
  have HS := Lib.hid hs
  have HI := Lib.hid hi
  clear hT hg ho hs hi
  go_enter Tryd.func19, Tryd.ntmps19
  go_wp2_with (first | refine wpList_load_row rfl 55 _ rfl 0 rfl t cs fr _ (obj_below HG.out (below_al _ _)) Tryd.underlying55 rfl (by rw [HI.out, HS.out]) ?_ | (refine wpList_store_row rfl 55 _ _ rfl (w.heap.size + 1) cs rfl rfl 55 (Array.replicate 140 (.int .i64 0)) (heap_al _ _ _ (by simp)) (by rw [HI.out, HS.out]) (by rw [HS.out]; simp) HO.out ?_; rw [setRow_next]))
  refine bodyPost_ret (results_cell_row rfl _ _ w.heap.size _ _ _ _ rfl ((heap_alloc_old' _ _ _ (by simp)).trans (heap_alloc_new _ _)) Tryd.underlying24 rfl (by kernel_rfl)) rfl ?_
  exact ⟨w.heap.size + 1, rfl, by omega, heap_al _ _ _ (by simp), hbt (below_al _ _) (below_al _ _)⟩

set_option maxRecDepth 100000 in
set_option maxHeartbeats 1600000 in
theorem iss_any (w : World) (hT : Tabs w) :
    Calls Tryd.prog 20 #[] w fun e w' => ∃ g, e = .returned (.agg #[.int .i64 2, .int .i64 1, .slice (some ⟨g, 0, none⟩) 26 26]) ∧ w.heap.size ≤ g ∧ w'.heap[g]? = some (.cells (spsC issL).toArray 56) ∧ Below w.heap.size w w' := by
  obtain ⟨t, fr, hg⟩ := hT.2
  have hs : (spsC issL).toArray.size = 130 := by rw [sps_size]; rfl
  have ho := sps_all issL
  obtain ⟨hz, hi⟩ := zero_of_info Tryd.zeroI
  generalize (spsC issL).toArray = cs at *
  have HG := Lib.hid hg
  have HO := Lib.hid ho
  have HS := Lib.hid hs
  have HI := Lib.hid hi
  clear hT hg ho hs hi
  go_enter Tryd.func20, Tryd.ntmps20
  go_wp2_with (first | refine wpList_load_row rfl 56 _ rfl 1 rfl t cs fr _ (obj_below HG.out (below_al _ _)) Tryd.underlying56 rfl (by rw [HI.out, HS.out]) ?_ | (refine wpList_store_row rfl 56 _ _ rfl (w.heap.size + 1) cs rfl rfl 56 (Array.replicate 130 (.int .i64 0)) (heap_al _ _ _ (by simp)) (by rw [HI.out, HS.out]) (by rw [HS.out]; simp) HO.out ?_; rw [setRow_next]))
  refine bodyPost_ret (results_cell_row rfl _ _ w.heap.size _ _ _ _ rfl ((heap_alloc_old' _ _ _ (by simp)).trans (heap_alloc_new _ _)) Tryd.underlying24 rfl (by kernel_rfl)) rfl ?_
  exact ⟨w.heap.size + 1, rfl, by omega, heap_al _ _ _ (by simp), hbt (below_al _ _) (below_al _ _)⟩

end Go.Proofs.YtbclaiaadeecfaaDoor
