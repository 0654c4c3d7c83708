/-
  What Same, slices.Equal over values and the document's Same answer: for every two messages of up to 1000 fields, in every world.
-/
import Derived.Test.YthheflgfbdcnlaaDoorMsgOf
import Derived.Test.YthheflgfbdcnlaaDoorPackBase
import Derived.BigQuiet
import Derived.Deep.RegionWith
namespace Go.Proofs.YthheflgfbdcnlaaDoor
open Go.RowKit

theorem text_of {x y : ByteArray} (h : x.toList = y.toList) : x = y := by
  rw [ByteArray.toList_eq, ByteArray.toList_eq] at h
  rw [ByteArray.ext_iff]
  exact Array.toList_inj.1 h
theorem texts_ne {x y : ByteArray} (h : x ≠ y) : (x.toList == y.toList) = false := by
  rw [beq_eq_false_iff_ne]
  exact fun e => h (text_of e)

theorem vals_two {w : World} {A B : Option Addr} {l m : List Item} (hA : Tlvs w A l) (hB : Tlvs w B m) {k : Nat} (h1 : k < l.length) (h2 : k < m.length) (he : itemAt l k = itemAt m k) : ∃ a b n s, A = some a ∧ B = some b ∧
    (w.cell? (a.add (k * 2)) = some (.int .i64 n) ∧ w.cell? ⟨(a.add (k * 2)).block, (a.add (k * 2)).off + 1, none⟩ = some (.string s)) ∧
    (w.cell? (b.add (k * 2)) = some (.int .i64 n) ∧ w.cell? ⟨(b.add (k * 2)).block, (b.add (k * 2)).off + 1, none⟩ = some (.string s)) := by
  obtain ⟨a, n, s, ha, hx, g⟩ := hA.at_ h1
  obtain ⟨b, n', s', hb, hy, g'⟩ := hB.at_ h2
  rw [hx, hy] at he
  simp only [Prod.mk.injEq] at he
  obtain ⟨rfl, rfl⟩ := he
  exact ⟨a, b, n, s, ha, hb, g, g'⟩


/-- Two messages in the first two blocks that the call makes. -/
def MTwins (w : World) (x : ByteArray) (A : Option Addr) (len cap : Nat) (y : ByteArray) (B : Option Addr) (len' cap' : Nat) (u : World) : Prop := Below w.heap.size w u ∧ MBox u w.heap.size x A len cap ∧ MBox u (w.heap.size + 1) y B len' cap'
theorem MTwins.below {w : World} {x : ByteArray} {A : Option Addr} {len cap : Nat} {y : ByteArray} {B : Option Addr} {len' cap' : Nat} {u u' : World} (h : MTwins w x A len cap y B len' cap' u) (hb : Below u.heap.size u u') : MTwins w x A len cap y B len' cap' u' := ⟨hbt h.1 hb, h.2.1.below hb, h.2.2.below hb⟩
theorem mtwins_new (w : World) (x : ByteArray) (A : Option Addr) (len cap : Nat) (y : ByteArray) (B : Option Addr) (len' cap' : Nat) : MTwins w x A len cap y B len' cap' ((w.alloc (.cells #[.string x, .slice A len cap] 32)).alloc (.cells #[.string y, .slice B len' cap'] 32)) :=
  ⟨hbt (below_al _ _) (below_al _ _), (mbox_new _ _ _ _ _).below (below_al _ _), heap_al _ _ _ (by simp)⟩

set_option maxRecDepth 100000 in
set_option maxHeartbeats 1600000 in
theorem mrsame_m (x : ByteArray) (A : Option Addr) (len cap : Nat) (y : ByteArray) (B : Option Addr) (len' cap' : Nat) (w : World) (h : x ≠ y) :
    Calls Tryd.prog 9 #[.agg #[.string x, .slice A len cap], .agg #[.string y, .slice B len' cap']] w fun e w' => e = .returned (.bool false) ∧ Below w.heap.size w w' := by
  have t := texts_ne h
  clear h
  go_enter Tryd.func9, Tryd.ntmps9
  go_wp2
  go_ret
  exact ⟨rfl, hbt (below_al _ _) (below_al _ _)⟩
set_option maxRecDepth 100000 in
set_option maxHeartbeats 1600000 in
theorem mrsame_len (x : ByteArray) (A : Option Addr) (len cap : Nat) (B : Option Addr) (len' cap' : Nat) (w : World) (h : len ≠ len') :
    Calls Tryd.prog 9 #[.agg #[.string x, .slice A len cap], .agg #[.string x, .slice B len' cap']] w fun e w' => e = .returned (.bool false) ∧ Below w.heap.size w w' := by
  have t : ((len : Int) != (len' : Int)) = true := by simp; omega
  clear h
  go_enter Tryd.func9, Tryd.ntmps9
  go_wp2
  go_ret
  exact ⟨rfl, hbt (below_al _ _) (below_al _ _)⟩
set_option maxRecDepth 100000 in
set_option maxHeartbeats 3200000 in
theorem mrsame_list (x : ByteArray) (A B : Option Addr) (ca cb : Nat) (l m : List Item) (w : World) (hA : Tlvs w A l) (hB : Tlvs w B m) (hl : l.length ≤ 1000) (hlm : l.length = m.length) :
    Calls Tryd.prog 9 #[.agg #[.string x, .slice A l.length ca], .agg #[.string x, .slice B l.length cb]] w fun e w' => e = .returned (.bool (decide (l = m))) ∧ Below w.heap.size w w' := by
  have HLM := Lib.hid hlm
  clear hlm
  generalize hlen : l.length = len at *
  have HLEN := Lib.hid hlen
  clear hlen
  have HT := Lib.hid (mtwins_new w x A len ca x B len cb)
  have HA := Lib.hid (hA.below HT.out.1)
  have HB := Lib.hid (hB.below HT.out.1)
  clear hA hB
  go_enter Tryd.func9, Tryd.ntmps9
  go_wp2_with fail
  generalize (w.alloc (.cells #[.string x, .slice A len ca] 32)).alloc (.cells #[.string x, .slice B len cb] 32) = U at *
  go_loopw [5] (fun i wr => ∃ k : Nat, k ≤ len ∧ i = .int .i64 (k : Int) ∧ (∀ j, j < k → itemAt l j = itemAt m j) ∧ Below U.heap.size U wr) (fun i _ => len - (intOf i).toNat)
  case atStart => exact ⟨0, Nat.zero_le _, rfl, fun j hj => by omega, Below.refl _ _⟩
  case round =>
    obtain ⟨k, hk, rfl, hno, hb⟩ := hrel
    have HNO := Lib.hid hno
    have HW := Lib.hid hb
    have HU := Lib.hid (HT.out.below hb)
    obtain ⟨b0, b1, _, _⟩ := obj_cells HU.out.2.1
    obtain ⟨b3, b4, _, _⟩ := obj_cells HU.out.2.2
    clear hno hb
    by_cases hlt : k < len
    · by_cases he : itemAt l k = itemAt m k
      · have HE := Lib.hid he
        obtain ⟨a, b, n, s, rfl, rfl, ⟨c0, c1⟩, d0, d1⟩ := vals_two (HA.out.below HW.out) (HB.out.below HW.out) (by have := HLEN.out; omega) (by have := HLEN.out; have := HLM.out; omega) he
        clear he
        go_wp2_with fail
        go_quiet (fail)
        go_wp2
        go_roundw
        case rel =>
          refine ⟨k + 1, by omega, by go_num, fun j hj => ?_, hbt HW.out (below_drewN _ _)⟩
          rcases Nat.lt_or_ge j k with h | h
          · exact HNO.out j h
          · obtain rfl : j = k := by omega
            exact HE.out
        case measure => simp [intOf]; omega
      · obtain ⟨a, n, s, rfl, hx, c0, c1⟩ := (HA.out.below HW.out).at_ (i := k) (by have := HLEN.out; omega)
        obtain ⟨b, n', s', rfl, hy, d0, d1⟩ := (HB.out.below HW.out).at_ (i := k) (by have := HLEN.out; have := HLM.out; omega)
        have hne : Hid (l ≠ m) := fun e => he (by rw [e])
        rw [hx, hy] at he
        simp only [Prod.mk.injEq] at he
        go_wp2_with fail
        refine wp_region_noPanic ?_
        refine wp_region_held_drew (S := (fun u => Below wr.heap.size wr u)) (by kernel_rfl) ((Below.refl _ _).drew) (fun hS => ?_)
        refine gv 0 (v := ?_) (fun u hu => ?_) hS ?_
        rotate_left
        · ((have q0 := (hu.cell (block_lt_of_cell c0)).trans c0; have q1 := (hu.cell (block_lt_of_cell c1)).trans c1; have p0 := (hu.cell (block_lt_of_cell d0)).trans d0; have p1 := (hu.cell (block_lt_of_cell d1)).trans d1; have o1 := (hu.cell (block_lt_of_cell b1)).trans b1; have o4 := (hu.cell (block_lt_of_cell b4)).trans b4); go_simp; try (with_reducible rfl))
        try simp only [puts]
        refine gv 1 (v := ?_) (fun u hu => ?_) hS ?_
        rotate_left
        · ((have q0 := (hu.cell (block_lt_of_cell c0)).trans c0; have q1 := (hu.cell (block_lt_of_cell c1)).trans c1; have p0 := (hu.cell (block_lt_of_cell d0)).trans d0; have p1 := (hu.cell (block_lt_of_cell d1)).trans d1; have o1 := (hu.cell (block_lt_of_cell b1)).trans b1; have o4 := (hu.cell (block_lt_of_cell b4)).trans b4); go_simp; try (with_reducible rfl))
        try simp only [puts]
        refine gv 2 (v := ?_) (fun u hu => ?_) hS ?_
        rotate_left
        · ((have q0 := (hu.cell (block_lt_of_cell c0)).trans c0; have q1 := (hu.cell (block_lt_of_cell c1)).trans c1; have p0 := (hu.cell (block_lt_of_cell d0)).trans d0; have p1 := (hu.cell (block_lt_of_cell d1)).trans d1; have o1 := (hu.cell (block_lt_of_cell b1)).trans b1; have o4 := (hu.cell (block_lt_of_cell b4)).trans b4); go_simp; try (with_reducible rfl))
        try simp only [puts]
        refine gv 3 (v := ?_) (fun u hu => ?_) hS ?_
        rotate_left
        · ((have q0 := (hu.cell (block_lt_of_cell c0)).trans c0; have q1 := (hu.cell (block_lt_of_cell c1)).trans c1; have p0 := (hu.cell (block_lt_of_cell d0)).trans d0; have p1 := (hu.cell (block_lt_of_cell d1)).trans d1; have o1 := (hu.cell (block_lt_of_cell b1)).trans b1; have o4 := (hu.cell (block_lt_of_cell b4)).trans b4); go_simp; try (with_reducible rfl))
        try simp only [puts]
        refine gv 4 (v := ?_) (fun u hu => ?_) hS ?_
        rotate_left
        · ((have q0 := (hu.cell (block_lt_of_cell c0)).trans c0; have q1 := (hu.cell (block_lt_of_cell c1)).trans c1; have p0 := (hu.cell (block_lt_of_cell d0)).trans d0; have p1 := (hu.cell (block_lt_of_cell d1)).trans d1; have o1 := (hu.cell (block_lt_of_cell b1)).trans b1; have o4 := (hu.cell (block_lt_of_cell b4)).trans b4); go_simp; try (with_reducible rfl))
        try simp only [puts]
        refine gv 5 (v := ?_) (fun u hu => ?_) hS ?_
        rotate_left
        · ((have q0 := (hu.cell (block_lt_of_cell c0)).trans c0; have q1 := (hu.cell (block_lt_of_cell c1)).trans c1; have p0 := (hu.cell (block_lt_of_cell d0)).trans d0; have p1 := (hu.cell (block_lt_of_cell d1)).trans d1; have o1 := (hu.cell (block_lt_of_cell b1)).trans b1; have o4 := (hu.cell (block_lt_of_cell b4)).trans b4); go_simp; try (with_reducible rfl))
        try simp only [puts]
        refine gv 6 (v := ?_) (fun u hu => ?_) hS ?_
        rotate_left
        · ((have q0 := (hu.cell (block_lt_of_cell c0)).trans c0; have q1 := (hu.cell (block_lt_of_cell c1)).trans c1; have p0 := (hu.cell (block_lt_of_cell d0)).trans d0; have p1 := (hu.cell (block_lt_of_cell d1)).trans d1; have o1 := (hu.cell (block_lt_of_cell b1)).trans b1; have o4 := (hu.cell (block_lt_of_cell b4)).trans b4); go_simp; try (with_reducible rfl))
        try simp only [puts]
        refine gv 7 (v := ?_) (fun u hu => ?_) hS ?_
        rotate_left
        · ((have q0 := (hu.cell (block_lt_of_cell c0)).trans c0; have q1 := (hu.cell (block_lt_of_cell c1)).trans c1; have p0 := (hu.cell (block_lt_of_cell d0)).trans d0; have p1 := (hu.cell (block_lt_of_cell d1)).trans d1; have o1 := (hu.cell (block_lt_of_cell b1)).trans b1; have o4 := (hu.cell (block_lt_of_cell b4)).trans b4); go_simp; try (with_reducible rfl))
        try simp only [puts]
        refine gv 8 (v := ?_) (fun u hu => ?_) hS ?_
        rotate_left
        · ((have q0 := (hu.cell (block_lt_of_cell c0)).trans c0; have q1 := (hu.cell (block_lt_of_cell c1)).trans c1; have p0 := (hu.cell (block_lt_of_cell d0)).trans d0; have p1 := (hu.cell (block_lt_of_cell d1)).trans d1; have o1 := (hu.cell (block_lt_of_cell b1)).trans b1; have o4 := (hu.cell (block_lt_of_cell b4)).trans b4); go_simp; try (with_reducible rfl))
        try simp only [puts]
        refine gv 9 (v := ?_) (fun u hu => ?_) hS ?_
        rotate_left
        · ((have q0 := (hu.cell (block_lt_of_cell c0)).trans c0; have q1 := (hu.cell (block_lt_of_cell c1)).trans c1; have p0 := (hu.cell (block_lt_of_cell d0)).trans d0; have p1 := (hu.cell (block_lt_of_cell d1)).trans d1; have o1 := (hu.cell (block_lt_of_cell b1)).trans b1; have o4 := (hu.cell (block_lt_of_cell b4)).trans b4); go_simp; try (with_reducible rfl))
        try simp only [puts]
        refine gv 10 (v := (.bool true)) (fun u hu => ?_) hS ?_
        · ((have q0 := (hu.cell (block_lt_of_cell c0)).trans c0; have q1 := (hu.cell (block_lt_of_cell c1)).trans c1; have p0 := (hu.cell (block_lt_of_cell d0)).trans d0; have p1 := (hu.cell (block_lt_of_cell d1)).trans d1; have o1 := (hu.cell (block_lt_of_cell b1)).trans b1; have o4 := (hu.cell (block_lt_of_cell b4)).trans b4); go_simp; (exact fun e1 e2 => he ⟨e1, text_of e2⟩))
        try simp only [puts]
        refine wpAnyH_done (by kernel_rfl) (NoPanic.normal ?_) _
        clear c0 c1 d0 d1 b0 b1 b3 b4 he hx hy
        go_wp2
        go_ret
        exact ⟨by simp [hne.out], hbt HU.out.1 hS⟩
    · have HE := Lib.hid (items_ext (by rw [HLEN.out]; exact HLM.out) (fun j hj => HNO.out j (by have := HLEN.out; omega)))
      go_wp2
      go_ret
      exact ⟨by simp [HE.out], HU.out.1⟩
theorem mrsame_any (x : ByteArray) (A : Option Addr) (ca : Nat) (l : List Item) (y : ByteArray) (B : Option Addr) (cb : Nat) (m : List Item) (w : World) (hA : Tlvs w A l) (hB : Tlvs w B m) (hl : l.length ≤ 1000) :
    Calls Tryd.prog 9 #[.agg #[.string x, .slice A l.length ca], .agg #[.string y, .slice B m.length cb]] w fun e w' => e = .returned (.bool (sameM x l y m)) ∧ Below w.heap.size w w' := by
  by_cases h1 : x = y
  · subst h1
    by_cases h3 : l.length = m.length
    · rw [sameM_on, ← h3]; exact mrsame_list x A B ca cb l m w hA hB hl h3
    · rw [sameM_l (fun e => h3 (by rw [e]))]; exact mrsame_len x A _ ca B _ cb w h3
  · rw [sameM_m h1]; exact mrsame_m x A _ ca y B _ cb w h1


end Go.Proofs.YthheflgfbdcnlaaDoor
