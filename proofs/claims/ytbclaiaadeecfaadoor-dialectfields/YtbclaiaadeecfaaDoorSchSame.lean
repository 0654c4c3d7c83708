/-
  What Same, slices.Equal over specs and the document's Same answer: for every two schemas of up to 1000 specs, in every world.
-/
import Derived.Test.YtbclaiaadeecfaaDoorSchSet
import Derived.Test.YtbclaiaadeecfaaDoorRegHeld
import Derived.BigQuiet
import Derived.Deep.RegionWith
namespace Go.Proofs.YtbclaiaadeecfaaDoor
open Go.RowKit

theorem spl_two {w : World} {A B : Option Addr} {l m : List Sp} (hA : Spl w A l) (hB : Spl w B m) {k : Nat} (h1 : k < l.length) (h2 : k < m.length) (he : spAt l k = spAt m k) : ∃ a b n c f lo hi, A = some a ∧ B = some b ∧
    (w.cell? (a.add (k * 5)) = some (.int .i64 n) ∧ w.cell? ⟨(a.add (k * 5)).block, (a.add (k * 5)).off + 1, none⟩ = some (.int .i64 c) ∧ w.cell? ⟨(a.add (k * 5)).block, (a.add (k * 5)).off + 2, none⟩ = some (.int .i64 f) ∧
    w.cell? ⟨(a.add (k * 5)).block, (a.add (k * 5)).off + 3, none⟩ = some (.int .i64 lo) ∧ w.cell? ⟨(a.add (k * 5)).block, (a.add (k * 5)).off + 4, none⟩ = some (.int .i64 hi)) ∧
    (w.cell? (b.add (k * 5)) = some (.int .i64 n) ∧ w.cell? ⟨(b.add (k * 5)).block, (b.add (k * 5)).off + 1, none⟩ = some (.int .i64 c) ∧ w.cell? ⟨(b.add (k * 5)).block, (b.add (k * 5)).off + 2, none⟩ = some (.int .i64 f) ∧
    w.cell? ⟨(b.add (k * 5)).block, (b.add (k * 5)).off + 3, none⟩ = some (.int .i64 lo) ∧ w.cell? ⟨(b.add (k * 5)).block, (b.add (k * 5)).off + 4, none⟩ = some (.int .i64 hi)) := by
  obtain ⟨a, n, c, f, lo, hi, ha, hx, g⟩ := hA.at_ h1
  obtain ⟨b, n', c', f', lo', hi', hb, hy, g'⟩ := hB.at_ h2
  rw [hx, hy] at he
  simp only [Prod.mk.injEq] at he
  obtain ⟨rfl, rfl, rfl, rfl, rfl⟩ := he
  exact ⟨a, b, n, c, f, lo, hi, ha, hb, g, g'⟩


/-- Two schemas in the first two blocks that the call makes. -/
def Twins (w : World) (st v : Int) (A : Option Addr) (len cap : Nat) (st' v' : Int) (B : Option Addr) (len' cap' : Nat) (u : World) : Prop := Below w.heap.size w u ∧ Box u w.heap.size st v A len cap ∧ Box u (w.heap.size + 1) st' v' B len' cap'
theorem Twins.below {w : World} {st v : Int} {A : Option Addr} {len cap : Nat} {st' v' : Int} {B : Option Addr} {len' cap' : Nat} {u u' : World} (h : Twins w st v A len cap st' v' B len' cap' u) (hb : Below u.heap.size u u') : Twins w st v A len cap st' v' B len' cap' u' := ⟨hbt h.1 hb, h.2.1.below hb, h.2.2.below hb⟩
theorem Twins.drew {w : World} {st v : Int} {A : Option Addr} {len cap : Nat} {st' v' : Int} {B : Option Addr} {len' cap' : Nat} {u : World} (h : Twins w st v A len cap st' v' B len' cap' u) : Twins w st v A len cap st' v' B len' cap' u.drew := ⟨h.1.drew, h.2⟩
theorem twins_new (w : World) (st v : Int) (A : Option Addr) (len cap : Nat) (st' v' : Int) (B : Option Addr) (len' cap' : Nat) : Twins w st v A len cap st' v' B len' cap' ((w.alloc (.cells #[.int .i64 st, .int .i64 v, .slice A len cap] 24)).alloc (.cells #[.int .i64 st', .int .i64 v', .slice B len' cap'] 24)) :=
  ⟨hbt (below_al _ _) (below_al _ _), (box_new _ _ _ _ _ _).below (below_al _ _), heap_al _ _ _ (by simp)⟩
theorem same_st {st v : Int} {l : List Sp} {st' v' : Int} {l' : List Sp} (h : st ≠ st') : sameS st v l st' v' l' = false := by simp [sameS, h]
theorem same_v {st v : Int} {l : List Sp} {st' v' : Int} {l' : List Sp} (h : v ≠ v') : sameS st v l st' v' l' = false := by simp [sameS, h]
theorem same_l {st v : Int} {l : List Sp} {st' v' : Int} {l' : List Sp} (h : l ≠ l') : sameS st v l st' v' l' = false := by simp [sameS, h]
theorem same_on (st v : Int) (l l' : List Sp) : sameS st v l st v l' = decide (l = l') := by simp [sameS]

set_option maxHeartbeats 1600000 in
theorem srsame_st (st v : Int) (A : Option Addr) (len cap : Nat) (st' v' : Int) (B : Option Addr) (len' cap' : Nat) (w : World) (h : st ≠ st') :
    Calls Tryd.prog 11 #[.agg #[.int .i64 st, .int .i64 v, .slice A len cap], .agg #[.int .i64 st', .int .i64 v', .slice B len' cap']] w fun e w' => e = .returned (.bool false) ∧ Below w.heap.size w w' := by
  have t : (st != st') = true := by simpa using h
  clear h
  go_enter Tryd.func11, Tryd.ntmps11
  go_wp2
  go_ret
  exact ⟨rfl, hbt (below_al _ _) (below_al _ _)⟩
set_option maxHeartbeats 1600000 in
theorem srsame_v (st v : Int) (A : Option Addr) (len cap : Nat) (v' : Int) (B : Option Addr) (len' cap' : Nat) (w : World) (h : v ≠ v') :
    Calls Tryd.prog 11 #[.agg #[.int .i64 st, .int .i64 v, .slice A len cap], .agg #[.int .i64 st, .int .i64 v', .slice B len' cap']] w fun e w' => e = .returned (.bool false) ∧ Below w.heap.size w w' := by
  have t : (v != v') = true := by simpa using h
  clear h
  go_enter Tryd.func11, Tryd.ntmps11
  go_wp2
  go_ret
  exact ⟨rfl, hbt (below_al _ _) (below_al _ _)⟩
set_option maxHeartbeats 1600000 in
theorem srsame_len (st v : Int) (A : Option Addr) (len cap : Nat) (B : Option Addr) (len' cap' : Nat) (w : World) (h : len ≠ len') :
    Calls Tryd.prog 11 #[.agg #[.int .i64 st, .int .i64 v, .slice A len cap], .agg #[.int .i64 st, .int .i64 v, .slice B len' cap']] w fun e w' => e = .returned (.bool false) ∧ Below w.heap.size w w' := by
  have t : ((len : Int) != (len' : Int)) = true := by simp; omega
  clear h
  go_enter Tryd.func11, Tryd.ntmps11
  go_wp2
  go_ret
  exact ⟨rfl, hbt (below_al _ _) (below_al _ _)⟩
set_option maxHeartbeats 3200000 in
theorem srsame_list (st v : Int) (A B : Option Addr) (ca cb : Nat) (l m : List Sp) (w : World) (hA : Spl w A l) (hB : Spl w B m) (hl : l.length ≤ 1000) (hlm : l.length = m.length) :
    Calls Tryd.prog 11 #[.agg #[.int .i64 st, .int .i64 v, .slice A l.length ca], .agg #[.int .i64 st, .int .i64 v, .slice B l.length cb]] w fun e w' => e = .returned (.bool (decide (l = m))) ∧ Below w.heap.size w w' := by
  have HLM := Lib.hid hlm
  clear hlm
  generalize hlen : l.length = len at *
  have HLEN := Lib.hid hlen
  clear hlen
  have HT := Lib.hid (twins_new w st v A len ca st v B len cb)
  have HA := Lib.hid (hA.below HT.out.1)
  have HB := Lib.hid (hB.below HT.out.1)
  clear hA hB
  go_enter Tryd.func11, Tryd.ntmps11
  go_wp2_with fail
  generalize (w.alloc (.cells #[.int .i64 st, .int .i64 v, .slice A len ca] 24)).alloc (.cells #[.int .i64 st, .int .i64 v, .slice B len cb] 24) = U at *
  go_loopw [5] (fun i wr => ∃ k : Nat, k ≤ len ∧ i = .int .i64 (k : Int) ∧ (∀ j, j < k → spAt l j = spAt m j) ∧ Below U.heap.size U wr) (fun i _ => len - (intOf i).toNat)
  case atStart => exact ⟨0, Nat.zero_le _, rfl, fun j hj => by omega, Below.refl _ _⟩
  case round =>
    obtain ⟨k, hk, rfl, hno, hb⟩ := hrel
    have HNO := Lib.hid hno
    have HW := Lib.hid hb
    have HU := Lib.hid (HT.out.below hb)
    obtain ⟨b0, b1, b2⟩ := obj_cells3 HU.out.2.1
    obtain ⟨b3, b4, b5⟩ := obj_cells3 HU.out.2.2
    clear hno hb
    by_cases hlt : k < len
    · by_cases he : spAt l k = spAt m k
      · have HE := Lib.hid he
        obtain ⟨a, b, n, c, f, lo, hi, rfl, rfl, ⟨c0, c1, c2, c3, c4⟩, d0, d1, d2, d3, d4⟩ := spl_two (HA.out.below HW.out) (HB.out.below HW.out) (by have := HLEN.out; omega) (by have := HLEN.out; have := HLM.out; omega) he
        clear he
        go_wp2_with fail
        go_quiet (fail)
        go_wp2
        go_roundw
        case rel =>
          refine ⟨k + 1, by omega, by go_num, fun j hj => ?_, hbt HW.out (below_drewN _ _)⟩
          rcases Nat.lt_or_ge j k with h | h
          · exact HNO.out j h
          · obtain rfl : j = k := by omega
            exact HE.out
        case measure => simp [intOf]; omega
      · obtain ⟨a, n, c, f, lo, hi, rfl, hx, c0, c1, c2, c3, c4⟩ := (HA.out.below HW.out).at_ (i := k) (by have := HLEN.out; omega)
        obtain ⟨b, n', c', f', lo', hi', rfl, hy, d0, d1, d2, d3, d4⟩ := (HB.out.below HW.out).at_ (i := k) (by have := HLEN.out; have := HLM.out; omega)
        have hne : Hid (l ≠ m) := fun e => he (by rw [e])
        rw [hx, hy] at he
        simp only [Prod.mk.injEq] at he
        go_wp2_with fail
        refine wp_region_noPanic ?_
        refine wp_region_held_drew (S := (fun u => Below wr.heap.size wr u)) (by kernel_rfl) ((Below.refl _ _).drew) (fun hS => ?_)
        refine give_val (i := 0) (v := ?_) rfl (by kernel_rfl) (by kernel_rfl) (by kernel_rfl) (fun _ _ _ h => h) (by rfl) (fun u hu => ?_) hS ?_
        rotate_left
        · ((have q0 := (hu.cell (block_lt_of_cell c0)).trans c0; have q1 := (hu.cell (block_lt_of_cell c1)).trans c1; have q2 := (hu.cell (block_lt_of_cell c2)).trans c2; have q3 := (hu.cell (block_lt_of_cell c3)).trans c3; have q4 := (hu.cell (block_lt_of_cell c4)).trans c4; have p0 := (hu.cell (block_lt_of_cell d0)).trans d0; have p1 := (hu.cell (block_lt_of_cell d1)).trans d1; have p2 := (hu.cell (block_lt_of_cell d2)).trans d2; have p3 := (hu.cell (block_lt_of_cell d3)).trans d3; have p4 := (hu.cell (block_lt_of_cell d4)).trans d4; have o2 := (hu.cell (block_lt_of_cell b2)).trans b2; have o5 := (hu.cell (block_lt_of_cell b5)).trans b5); go_simp; try (with_reducible rfl))
        try simp only [Act.put, List.setIfInBounds_toArray, List.set_cons_zero, List.set_cons_succ]
        refine give_val (i := 1) (v := ?_) rfl (by kernel_rfl) (by kernel_rfl) (by kernel_rfl) (fun _ _ _ h => h) (by rfl) (fun u hu => ?_) hS ?_
        rotate_left
        · ((have q0 := (hu.cell (block_lt_of_cell c0)).trans c0; have q1 := (hu.cell (block_lt_of_cell c1)).trans c1; have q2 := (hu.cell (block_lt_of_cell c2)).trans c2; have q3 := (hu.cell (block_lt_of_cell c3)).trans c3; have q4 := (hu.cell (block_lt_of_cell c4)).trans c4; have p0 := (hu.cell (block_lt_of_cell d0)).trans d0; have p1 := (hu.cell (block_lt_of_cell d1)).trans d1; have p2 := (hu.cell (block_lt_of_cell d2)).trans d2; have p3 := (hu.cell (block_lt_of_cell d3)).trans d3; have p4 := (hu.cell (block_lt_of_cell d4)).trans d4; have o2 := (hu.cell (block_lt_of_cell b2)).trans b2; have o5 := (hu.cell (block_lt_of_cell b5)).trans b5); go_simp; try (with_reducible rfl))
        try simp only [Act.put, List.setIfInBounds_toArray, List.set_cons_zero, List.set_cons_succ]
        refine give_val (i := 2) (v := ?_) rfl (by kernel_rfl) (by kernel_rfl) (by kernel_rfl) (fun _ _ _ h => h) (by rfl) (fun u hu => ?_) hS ?_
        rotate_left
        · ((have q0 := (hu.cell (block_lt_of_cell c0)).trans c0; have q1 := (hu.cell (block_lt_of_cell c1)).trans c1; have q2 := (hu.cell (block_lt_of_cell c2)).trans c2; have q3 := (hu.cell (block_lt_of_cell c3)).trans c3; have q4 := (hu.cell (block_lt_of_cell c4)).trans c4; have p0 := (hu.cell (block_lt_of_cell d0)).trans d0; have p1 := (hu.cell (block_lt_of_cell d1)).trans d1; have p2 := (hu.cell (block_lt_of_cell d2)).trans d2; have p3 := (hu.cell (block_lt_of_cell d3)).trans d3; have p4 := (hu.cell (block_lt_of_cell d4)).trans d4; have o2 := (hu.cell (block_lt_of_cell b2)).trans b2; have o5 := (hu.cell (block_lt_of_cell b5)).trans b5); go_simp; try (with_reducible rfl))
        try simp only [Act.put, List.setIfInBounds_toArray, List.set_cons_zero, List.set_cons_succ]
        refine give_val (i := 3) (v := ?_) rfl (by kernel_rfl) (by kernel_rfl) (by kernel_rfl) (fun _ _ _ h => h) (by rfl) (fun u hu => ?_) hS ?_
        rotate_left
        · ((have q0 := (hu.cell (block_lt_of_cell c0)).trans c0; have q1 := (hu.cell (block_lt_of_cell c1)).trans c1; have q2 := (hu.cell (block_lt_of_cell c2)).trans c2; have q3 := (hu.cell (block_lt_of_cell c3)).trans c3; have q4 := (hu.cell (block_lt_of_cell c4)).trans c4; have p0 := (hu.cell (block_lt_of_cell d0)).trans d0; have p1 := (hu.cell (block_lt_of_cell d1)).trans d1; have p2 := (hu.cell (block_lt_of_cell d2)).trans d2; have p3 := (hu.cell (block_lt_of_cell d3)).trans d3; have p4 := (hu.cell (block_lt_of_cell d4)).trans d4; have o2 := (hu.cell (block_lt_of_cell b2)).trans b2; have o5 := (hu.cell (block_lt_of_cell b5)).trans b5); go_simp; try (with_reducible rfl))
        try simp only [Act.put, List.setIfInBounds_toArray, List.set_cons_zero, List.set_cons_succ]
        refine give_val (i := 4) (v := ?_) rfl (by kernel_rfl) (by kernel_rfl) (by kernel_rfl) (fun _ _ _ h => h) (by rfl) (fun u hu => ?_) hS ?_
        rotate_left
        · ((have q0 := (hu.cell (block_lt_of_cell c0)).trans c0; have q1 := (hu.cell (block_lt_of_cell c1)).trans c1; have q2 := (hu.cell (block_lt_of_cell c2)).trans c2; have q3 := (hu.cell (block_lt_of_cell c3)).trans c3; have q4 := (hu.cell (block_lt_of_cell c4)).trans c4; have p0 := (hu.cell (block_lt_of_cell d0)).trans d0; have p1 := (hu.cell (block_lt_of_cell d1)).trans d1; have p2 := (hu.cell (block_lt_of_cell d2)).trans d2; have p3 := (hu.cell (block_lt_of_cell d3)).trans d3; have p4 := (hu.cell (block_lt_of_cell d4)).trans d4; have o2 := (hu.cell (block_lt_of_cell b2)).trans b2; have o5 := (hu.cell (block_lt_of_cell b5)).trans b5); go_simp; try (with_reducible rfl))
        try simp only [Act.put, List.setIfInBounds_toArray, List.set_cons_zero, List.set_cons_succ]
        refine give_val (i := 5) (v := ?_) rfl (by kernel_rfl) (by kernel_rfl) (by kernel_rfl) (fun _ _ _ h => h) (by rfl) (fun u hu => ?_) hS ?_
        rotate_left
        · ((have q0 := (hu.cell (block_lt_of_cell c0)).trans c0; have q1 := (hu.cell (block_lt_of_cell c1)).trans c1; have q2 := (hu.cell (block_lt_of_cell c2)).trans c2; have q3 := (hu.cell (block_lt_of_cell c3)).trans c3; have q4 := (hu.cell (block_lt_of_cell c4)).trans c4; have p0 := (hu.cell (block_lt_of_cell d0)).trans d0; have p1 := (hu.cell (block_lt_of_cell d1)).trans d1; have p2 := (hu.cell (block_lt_of_cell d2)).trans d2; have p3 := (hu.cell (block_lt_of_cell d3)).trans d3; have p4 := (hu.cell (block_lt_of_cell d4)).trans d4; have o2 := (hu.cell (block_lt_of_cell b2)).trans b2; have o5 := (hu.cell (block_lt_of_cell b5)).trans b5); go_simp; try (with_reducible rfl))
        try simp only [Act.put, List.setIfInBounds_toArray, List.set_cons_zero, List.set_cons_succ]
        refine give_val (i := 6) (v := ?_) rfl (by kernel_rfl) (by kernel_rfl) (by kernel_rfl) (fun _ _ _ h => h) (by rfl) (fun u hu => ?_) hS ?_
        rotate_left
        · ((have q0 := (hu.cell (block_lt_of_cell c0)).trans c0; have q1 := (hu.cell (block_lt_of_cell c1)).trans c1; have q2 := (hu.cell (block_lt_of_cell c2)).trans c2; have q3 := (hu.cell (block_lt_of_cell c3)).trans c3; have q4 := (hu.cell (block_lt_of_cell c4)).trans c4; have p0 := (hu.cell (block_lt_of_cell d0)).trans d0; have p1 := (hu.cell (block_lt_of_cell d1)).trans d1; have p2 := (hu.cell (block_lt_of_cell d2)).trans d2; have p3 := (hu.cell (block_lt_of_cell d3)).trans d3; have p4 := (hu.cell (block_lt_of_cell d4)).trans d4; have o2 := (hu.cell (block_lt_of_cell b2)).trans b2; have o5 := (hu.cell (block_lt_of_cell b5)).trans b5); go_simp; try (with_reducible rfl))
        try simp only [Act.put, List.setIfInBounds_toArray, List.set_cons_zero, List.set_cons_succ]
        refine give_val (i := 7) (v := ?_) rfl (by kernel_rfl) (by kernel_rfl) (by kernel_rfl) (fun _ _ _ h => h) (by rfl) (fun u hu => ?_) hS ?_
        rotate_left
        · ((have q0 := (hu.cell (block_lt_of_cell c0)).trans c0; have q1 := (hu.cell (block_lt_of_cell c1)).trans c1; have q2 := (hu.cell (block_lt_of_cell c2)).trans c2; have q3 := (hu.cell (block_lt_of_cell c3)).trans c3; have q4 := (hu.cell (block_lt_of_cell c4)).trans c4; have p0 := (hu.cell (block_lt_of_cell d0)).trans d0; have p1 := (hu.cell (block_lt_of_cell d1)).trans d1; have p2 := (hu.cell (block_lt_of_cell d2)).trans d2; have p3 := (hu.cell (block_lt_of_cell d3)).trans d3; have p4 := (hu.cell (block_lt_of_cell d4)).trans d4; have o2 := (hu.cell (block_lt_of_cell b2)).trans b2; have o5 := (hu.cell (block_lt_of_cell b5)).trans b5); go_simp; try (with_reducible rfl))
        try simp only [Act.put, List.setIfInBounds_toArray, List.set_cons_zero, List.set_cons_succ]
        refine give_val (i := 8) (v := ?_) rfl (by kernel_rfl) (by kernel_rfl) (by kernel_rfl) (fun _ _ _ h => h) (by rfl) (fun u hu => ?_) hS ?_
        rotate_left
        · ((have q0 := (hu.cell (block_lt_of_cell c0)).trans c0; have q1 := (hu.cell (block_lt_of_cell c1)).trans c1; have q2 := (hu.cell (block_lt_of_cell c2)).trans c2; have q3 := (hu.cell (block_lt_of_cell c3)).trans c3; have q4 := (hu.cell (block_lt_of_cell c4)).trans c4; have p0 := (hu.cell (block_lt_of_cell d0)).trans d0; have p1 := (hu.cell (block_lt_of_cell d1)).trans d1; have p2 := (hu.cell (block_lt_of_cell d2)).trans d2; have p3 := (hu.cell (block_lt_of_cell d3)).trans d3; have p4 := (hu.cell (block_lt_of_cell d4)).trans d4; have o2 := (hu.cell (block_lt_of_cell b2)).trans b2; have o5 := (hu.cell (block_lt_of_cell b5)).trans b5); go_simp; try (with_reducible rfl))
        try simp only [Act.put, List.setIfInBounds_toArray, List.set_cons_zero, List.set_cons_succ]
        refine give_val (i := 9) (v := ?_) rfl (by kernel_rfl) (by kernel_rfl) (by kernel_rfl) (fun _ _ _ h => h) (by rfl) (fun u hu => ?_) hS ?_
        rotate_left
        · ((have q0 := (hu.cell (block_lt_of_cell c0)).trans c0; have q1 := (hu.cell (block_lt_of_cell c1)).trans c1; have q2 := (hu.cell (block_lt_of_cell c2)).trans c2; have q3 := (hu.cell (block_lt_of_cell c3)).trans c3; have q4 := (hu.cell (block_lt_of_cell c4)).trans c4; have p0 := (hu.cell (block_lt_of_cell d0)).trans d0; have p1 := (hu.cell (block_lt_of_cell d1)).trans d1; have p2 := (hu.cell (block_lt_of_cell d2)).trans d2; have p3 := (hu.cell (block_lt_of_cell d3)).trans d3; have p4 := (hu.cell (block_lt_of_cell d4)).trans d4; have o2 := (hu.cell (block_lt_of_cell b2)).trans b2; have o5 := (hu.cell (block_lt_of_cell b5)).trans b5); go_simp; try (with_reducible rfl))
        try simp only [Act.put, List.setIfInBounds_toArray, List.set_cons_zero, List.set_cons_succ]
        refine give_val (i := 10) (v := (.bool true)) rfl (by kernel_rfl) (by kernel_rfl) (by kernel_rfl) (fun _ _ _ h => h) (by rfl) (fun u hu => ?_) hS ?_
        · ((have q0 := (hu.cell (block_lt_of_cell c0)).trans c0; have q1 := (hu.cell (block_lt_of_cell c1)).trans c1; have q2 := (hu.cell (block_lt_of_cell c2)).trans c2; have q3 := (hu.cell (block_lt_of_cell c3)).trans c3; have q4 := (hu.cell (block_lt_of_cell c4)).trans c4; have p0 := (hu.cell (block_lt_of_cell d0)).trans d0; have p1 := (hu.cell (block_lt_of_cell d1)).trans d1; have p2 := (hu.cell (block_lt_of_cell d2)).trans d2; have p3 := (hu.cell (block_lt_of_cell d3)).trans d3; have p4 := (hu.cell (block_lt_of_cell d4)).trans d4; have o2 := (hu.cell (block_lt_of_cell b2)).trans b2; have o5 := (hu.cell (block_lt_of_cell b5)).trans b5); go_simp; (exact fun e1 e2 e3 e4 e5 => he ⟨e1, e2, e3, e4, e5⟩))
        try simp only [Act.put, List.setIfInBounds_toArray, List.set_cons_zero, List.set_cons_succ]
        refine wpAnyH_done (by kernel_rfl) (NoPanic.normal ?_) _
        clear c0 c1 c2 c3 c4 d0 d1 d2 d3 d4 b0 b1 b2 b3 b4 b5 he hx hy
        go_wp2
        go_ret
        exact ⟨by simp [hne.out], hbt HU.out.1 hS⟩
    · have HE := Lib.hid (sp_ext (by rw [HLEN.out]; exact HLM.out) (fun j hj => HNO.out j (by have := HLEN.out; omega)))
      go_wp2
      go_ret
      exact ⟨by simp [HE.out], HU.out.1⟩
theorem srsame_any (st v : Int) (A : Option Addr) (ca : Nat) (l : List Sp) (st' v' : Int) (B : Option Addr) (cb : Nat) (m : List Sp) (w : World) (hA : Spl w A l) (hB : Spl w B m) (hl : l.length ≤ 1000) :
    Calls Tryd.prog 11 #[.agg #[.int .i64 st, .int .i64 v, .slice A l.length ca], .agg #[.int .i64 st', .int .i64 v', .slice B m.length cb]] w fun e w' => e = .returned (.bool (sameS st v l st' v' m)) ∧ Below w.heap.size w w' := by
  by_cases h1 : st = st'
  · subst h1
    by_cases h2 : v = v'
    · subst h2
      by_cases h3 : l.length = m.length
      · rw [same_on, ← h3]; exact srsame_list st v A B ca cb l m w hA hB hl h3
      · rw [same_l (fun e => h3 (by rw [e]))]; exact srsame_len st v A _ ca B _ cb w h3
    · rw [same_v h2]; exact srsame_v st v A _ ca v' B _ cb w h2
  · rw [same_st h1]; exact srsame_st st v A _ ca st' v' B _ cb w h1


end Go.Proofs.YtbclaiaadeecfaaDoor
