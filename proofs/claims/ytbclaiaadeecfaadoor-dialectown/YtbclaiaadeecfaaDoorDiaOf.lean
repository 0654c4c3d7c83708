/-
  What both Losslesses answer, and a dialect beside the document's: in every world in which the two tables hold the dialects' specs.
-/
import Derived.Test.YtbclaiaadeecfaaDoorDiaLoad
import Derived.Test.YtbclaiaadeecfaaDoorDiaRef
import Derived.Test.YtbclaiaadeecfaaDoorFldOf
namespace Go.Proofs.YtbclaiaadeecfaaDoor
open Go.RowKit

def losO : Obj := .cells (losL.map fun z => Value.int .i64 z).toArray 3
theorem los_ints {u : World} {g : Nat} (h : u.heap[g]? = some losO) : Ints u (some ⟨g, 0, none⟩) losL := by
  intro i hi
  refine ⟨_, rfl, ?_⟩
  rw [show (⟨g, 0, none⟩ : Addr).add i = ⟨g, i, none⟩ from by rw [Addr.add_lit, Nat.zero_add], cell_of_row _ _ i _ _ _ h]
  simp [List.getD, hi]

set_option maxRecDepth 100000 in
set_option maxHeartbeats 1600000 in
theorem reflos_any (w : World) :
    Calls Tryd.prog 18 #[] w fun e w' => ∃ g, e = .returned (.slice (some ⟨g, 0, none⟩) 21 21) ∧ Ints w' (some ⟨g, 0, none⟩) losL ∧ Below w.heap.size w w' := by
  have HL := Lib.hid (los_ints (heap_alloc_new w losO))
  have HB := Lib.hid (below_al w losO)
  go_enter Tryd.func18, Tryd.ntmps18
  go_wp2
  go_ret
  exact ⟨w.heap.size, rfl, HL.out, HB.out⟩

set_option maxRecDepth 100000 in
set_option maxHeartbeats 1600000 in
theorem los_any (w : World) :
    Calls Tryd.prog 15 #[] w fun e w' => e = .returned (setV (ofH losL) (ofL losL)) ∧ Below w.heap.size w w' := by
  have HI := Lib.hid (los_ints (obj_below (heap_al (w.alloc (.cells #[.int .u64 0, .int .u64 0] 41)) losO (w.heap.size + 1) (by simp)) (Below.refl _ _)))
  have HF := Lib.hid (fun A W hI => of_any A 21 losL W hI (by decide))
  have HB := Lib.hid (hbt (below_al w (.cells #[.int .u64 0, .int .u64 0] 41)) (below_al _ losO))
  have HR : Hid (((w.alloc (.cells #[.int .u64 0, .int .u64 0] 41)).alloc losO).heap[w.heap.size]? = some (.cells #[.int .u64 0, .int .u64 0] 41)) := obj_below (heap_alloc_new w _) (below_al _ _)
  unfold setV at *
  generalize ofH losL = x at *
  generalize ofL losL = y at *
  go_enter Tryd.func15, Tryd.ntmps15
  go_wp2_with fail
  refine (HF.out _ _ HI.out).mono ?_
  rintro e w1 ⟨rfl, hb1⟩
  have HR1 := Lib.hid (obj_below HR.out hb1)
  have HB1 := Lib.hid (hbt HB.out hb1)
  obtain ⟨c0, c1, f0, f1⟩ := obj_cells HR1.out
  clear hb1
  go_wp2
  refine bodyPost_ret (results_cell_row rfl _ _ w.heap.size _ _ _ _ rfl (obj_set2 HR1.out _ _) Tryd.underlying41 rfl (by kernel_rfl)) rfl ?_
  exact ⟨rfl, below_set2 HB1.out (Nat.le_refl _) _ _⟩

/-- Results: two structs' blocks. -/
theorem results_cell_cell {P : Program} {fn : Func} {p q : Tmp} {ty ty' : TypeId} (h : fn.results = #[.cell p ty, .cell q ty']) (tmps : Array Value) (w : World) (g g' : Nat) (t t' : TypeId) (cs cs' : Array Value) (fr fr' : Nat × Nat) (d d' : TypeDesc)
    (hp : tmps.getD p undef = .pointer (some ⟨g, 0, none⟩)) (hg : w.heap[g]? = some (.cells cs t fr)) (hq : tmps.getD q undef = .pointer (some ⟨g', 0, none⟩)) (hg' : w.heap[g']? = some (.cells cs' t' fr'))
    (hu : P.underlying ty = some d) (hd : (match d with | .struct _ | .array _ _ => true | _ => false) = true) (hi : (P.info? ty).map (·.size) = some cs.size)
    (hu' : P.underlying ty' = some d') (hd' : (match d' with | .struct _ | .array _ _ => true | _ => false) = true) (hi' : (P.info? ty').map (·.size) = some cs'.size) :
    (results fn tmps).run P w = .ok (.tuple #[.agg cs, .agg cs']) w := by
  have hp' : tmps[p]?.getD undef = .pointer (some ⟨g, 0, none⟩) := by simpa using hp
  have hq' : tmps[q]?.getD undef = .pointer (some ⟨g', 0, none⟩) := by simpa using hq
  simp [results, h, hp', hq', asAddr, run_loadVar_row w g t ty cs fr d hg hu hd hi, run_loadVar_row w g' t' ty' cs' fr' d' hg' hu' hd' hi']

theorem obj_set3_other {u : World} {p q : Nat} {O : Obj} (h : u.heap[q]? = some O) (hq : q ≠ p) (x y z : Value) : (((u.setCell ⟨p, 0, none⟩ x).setCell ⟨p, 1, none⟩ y).setCell ⟨p, 2, none⟩ z).heap[q]? = some O := by
  rw [heap_setCell_other _ _ _ _ hq, heap_setCell_other _ _ _ _ hq, heap_setCell_other _ _ _ _ hq]
  exact h
/-- A dialect, in a block of the call's own, beside the document's, somewhere else. -/
def Pair (w : World) (L : List Sp) (g : Nat) (A : Option Addr) (u : World) : Prop :=
  w.heap.size ≤ g ∧ (∃ t, u.heap[g]? = some (.cells (spsC L).toArray t)) ∧ Spl u A L ∧ (∀ a, A = some a → a.block ≠ g) ∧ Below w.heap.size w u
theorem Pair.spl {w : World} {L : List Sp} {g : Nat} {A : Option Addr} {u : World} (h : Pair w L g A u) : Spl u (some ⟨g, 0, none⟩) L := by
  obtain ⟨t, ht⟩ := h.2.1
  exact spl_row ht rfl
theorem Pair.below {w : World} {L : List Sp} {g : Nat} {A : Option Addr} {u u' : World} (h : Pair w L g A u) (hb : Below u.heap.size u u') : Pair w L g A u' := by
  obtain ⟨h1, ⟨t, h2⟩, h3, h4, h5⟩ := h
  exact ⟨h1, ⟨t, obj_below h2 hb⟩, h3.below hb, h4, hbt h5 hb⟩

set_option maxRecDepth 100000 in
set_option maxHeartbeats 3200000 in
theorem dof_no (w : World) (hT : Tabs w) :
    Calls Tryd.prog 7 #[.bool false] w fun e w' => ∃ g A c, e = .returned (.tuple #[.agg #[.int .i64 1, .int .i64 0, .slice (some ⟨g, 0, none⟩) 28 28], .agg #[.int .i64 1, .int .i64 0, .slice A 28 c]]) ∧ Pair w acqL g A w' := by
  have hb0 : Below w.heap.size w ((w.alloc (.cells #[.int .i64 0, .int .i64 0, .slice none 0 0] 24)).alloc (.cells #[.int .i64 0, .int .i64 0, .slice none 0 0] 24)) := hbt (below_al _ _) (below_al _ _)
  have HT := Lib.hid (hT.below hb0)
  have HB0 := Lib.hid hb0
  have HP0 : Hid (Room3 ((w.alloc (.cells #[.int .i64 0, .int .i64 0, .slice none 0 0] 24)).alloc (.cells #[.int .i64 0, .int .i64 0, .slice none 0 0] 24)) w.heap.size) := obj_below (heap_alloc_new w _) (below_al _ _)
  have HQ0 : Hid (Room3 ((w.alloc (.cells #[.int .i64 0, .int .i64 0, .slice none 0 0] 24)).alloc (.cells #[.int .i64 0, .int .i64 0, .slice none 0 0] 24)) (w.heap.size + 1)) := heap_al _ _ _ (by simp)
  clear hT hb0
  go_enter Tryd.func7, Tryd.ntmps7
  go_wp2_with fail
  refine (acq_any _ HT.out).mono ?_
  rintro e w1 ⟨g, rfl, hg0, hg, hb1⟩
  have hg2 : w.heap.size + 2 ≤ g := by simpa using hg0
  have HG2 := Lib.hid hg2
  have HG1 := Lib.hid (obj_lt hg)
  have HG := Lib.hid hg
  have HB1 := Lib.hid (hbt HB0.out hb1)
  have HP1 : Hid (Room3 w1 w.heap.size) := obj_below HP0.out hb1
  have HQ1 : Hid (Room3 w1 (w.heap.size + 1)) := obj_below HQ0.out hb1
  clear hg0 hg hb1 hg2
  go_wp2_with fail
  refine (refsch_0 _).mono ?_
  rw [ref_acq]
  rintro e w2 ⟨A, c, rfl, ht, ha, hb2⟩
  have HB2 := Lib.hid (hbt HB1.out hb2)
  have HS2 := Lib.hid ht
  have HA2 := Lib.hid ha
  have HP2 : Hid (Room3 w2 w.heap.size) := obj_below HP1.out hb2
  have HQ2 : Hid (Room3 w2 (w.heap.size + 1)) := obj_below HQ1.out hb2
  have HG3 := Lib.hid (obj_below HG.out hb2)
  have HSZ := Lib.hid (HB1.out.size)
  clear ht ha hb2
  obtain ⟨c0, c1, c2⟩ := obj_cells3 HP2.out
  obtain ⟨f0, f1, f2⟩ := obj_warm3 HP2.out
  obtain ⟨d0, d1, d2⟩ := obj_cells3 HQ2.out
  obtain ⟨e0, e1, e2⟩ := obj_warm3 HQ2.out
  rw [show acqL.length = 28 from rfl]
  go_wp2
  have hg2 := HG2.out
  have hg1 := HG1.out
  refine bodyPost_ret (results_cell_cell rfl _ _ w.heap.size (w.heap.size + 1) _ _ _ _ _ _ _ _ rfl (obj_set3_other (obj_set3 HP2.out _ _ _) (by omega) _ _ _) rfl (obj_set3 (obj_set3_other HQ2.out (by omega) _ _ _) _ _ _) Tryd.underlying24 rfl (by kernel_rfl) Tryd.underlying24 rfl (by kernel_rfl)) rfl ?_
  refine ⟨g, A, c, rfl, by omega, ⟨_, obj_set3_other (obj_set3_other HG3.out (by omega) _ _ _) (by omega) _ _ _⟩, ?_, fun a hq => by have := HA2.out a hq; omega, below_set3 (below_set3 HB2.out (Nat.le_refl _) _ _ _) (by omega) _ _ _⟩
  exact spl_set3 (spl_set3 HS2.out (fun a hq => by have := HA2.out a hq; omega) _ _ _) (fun a hq => by have := HA2.out a hq; omega) _ _ _

set_option maxRecDepth 100000 in
set_option maxHeartbeats 3200000 in
theorem dof_yes (w : World) (hT : Tabs w) :
    Calls Tryd.prog 7 #[.bool true] w fun e w' => ∃ g A c, e = .returned (.tuple #[.agg #[.int .i64 2, .int .i64 1, .slice (some ⟨g, 0, none⟩) 26 26], .agg #[.int .i64 2, .int .i64 1, .slice A 26 c]]) ∧ Pair w issL g A w' := by
  have hb0 : Below w.heap.size w ((w.alloc (.cells #[.int .i64 0, .int .i64 0, .slice none 0 0] 24)).alloc (.cells #[.int .i64 0, .int .i64 0, .slice none 0 0] 24)) := hbt (below_al _ _) (below_al _ _)
  have HT := Lib.hid (hT.below hb0)
  have HB0 := Lib.hid hb0
  have HP0 : Hid (Room3 ((w.alloc (.cells #[.int .i64 0, .int .i64 0, .slice none 0 0] 24)).alloc (.cells #[.int .i64 0, .int .i64 0, .slice none 0 0] 24)) w.heap.size) := obj_below (heap_alloc_new w _) (below_al _ _)
  have HQ0 : Hid (Room3 ((w.alloc (.cells #[.int .i64 0, .int .i64 0, .slice none 0 0] 24)).alloc (.cells #[.int .i64 0, .int .i64 0, .slice none 0 0] 24)) (w.heap.size + 1)) := heap_al _ _ _ (by simp)
  clear hT hb0
  go_enter Tryd.func7, Tryd.ntmps7
  go_wp2_with fail
  refine (iss_any _ HT.out).mono ?_
  rintro e w1 ⟨g, rfl, hg0, hg, hb1⟩
  have hg2 : w.heap.size + 2 ≤ g := by simpa using hg0
  have HG2 := Lib.hid hg2
  have HG1 := Lib.hid (obj_lt hg)
  have HG := Lib.hid hg
  have HB1 := Lib.hid (hbt HB0.out hb1)
  have HP1 : Hid (Room3 w1 w.heap.size) := obj_below HP0.out hb1
  have HQ1 : Hid (Room3 w1 (w.heap.size + 1)) := obj_below HQ0.out hb1
  clear hg0 hg hb1 hg2
  go_wp2_with fail
  refine (refsch_1 _).mono ?_
  rw [ref_iss]
  rintro e w2 ⟨A, c, rfl, ht, ha, hb2⟩
  have HB2 := Lib.hid (hbt HB1.out hb2)
  have HS2 := Lib.hid ht
  have HA2 := Lib.hid ha
  have HP2 : Hid (Room3 w2 w.heap.size) := obj_below HP1.out hb2
  have HQ2 : Hid (Room3 w2 (w.heap.size + 1)) := obj_below HQ1.out hb2
  have HG3 := Lib.hid (obj_below HG.out hb2)
  have HSZ := Lib.hid (HB1.out.size)
  clear ht ha hb2
  obtain ⟨c0, c1, c2⟩ := obj_cells3 HP2.out
  obtain ⟨f0, f1, f2⟩ := obj_warm3 HP2.out
  obtain ⟨d0, d1, d2⟩ := obj_cells3 HQ2.out
  obtain ⟨e0, e1, e2⟩ := obj_warm3 HQ2.out
  rw [show issL.length = 26 from rfl]
  go_wp2
  have hg2 := HG2.out
  have hg1 := HG1.out
  refine bodyPost_ret (results_cell_cell rfl _ _ w.heap.size (w.heap.size + 1) _ _ _ _ _ _ _ _ rfl (obj_set3_other (obj_set3 HP2.out _ _ _) (by omega) _ _ _) rfl (obj_set3 (obj_set3_other HQ2.out (by omega) _ _ _) _ _ _) Tryd.underlying24 rfl (by kernel_rfl) Tryd.underlying24 rfl (by kernel_rfl)) rfl ?_
  refine ⟨g, A, c, rfl, by omega, ⟨_, obj_set3_other (obj_set3_other HG3.out (by omega) _ _ _) (by omega) _ _ _⟩, ?_, fun a hq => by have := HA2.out a hq; omega, below_set3 (below_set3 HB2.out (Nat.le_refl _) _ _ _) (by omega) _ _ _⟩
  exact spl_set3 (spl_set3 HS2.out (fun a hq => by have := HA2.out a hq; omega) _ _ _) (fun a hq => by have := HA2.out a hq; omega) _ _ _

/-- A dialect and the document's, by letters. -/
theorem dof_any (b : Bool) : ∃ (st v : Int) (L : List Sp), (schN st v L).1 = 0 ∧ L.length ≤ 1000 ∧ ∀ w, Tabs w → Calls Tryd.prog 7 #[.bool b] w fun e w' => ∃ g A c,
    e = .returned (.tuple #[.agg #[.int .i64 st, .int .i64 v, .slice (some ⟨g, 0, none⟩) L.length L.length], .agg #[.int .i64 st, .int .i64 v, .slice A L.length c]]) ∧ Pair w L g A w' := by
  cases b
  · exact ⟨1, 0, acqL, dia_right false, dia_len false, dof_no⟩
  · exact ⟨2, 1, issL, dia_right true, dia_len true, dof_yes⟩

end Go.Proofs.YtbclaiaadeecfaaDoor
