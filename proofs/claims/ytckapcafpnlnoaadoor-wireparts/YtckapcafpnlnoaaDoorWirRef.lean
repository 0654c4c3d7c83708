/-
  What the document's Bytes answers of a valid message: in every world.
-/
import Derived.Test.YtckapcafpnlnoaaDoorWirSmall
import Derived.Test.YtckapcafpnlnoaaDoorMsgCut
import Derived.Test.YtckapcafpnlnoaaDoorPackBmp
import Derived.Test.YtckapcafpnlnoaaDoorPackCel
import Derived.Test.YtckapcafpnlnoaaDoorPackSch
import Derived.Test.YtckapcafpnlnoaaDoorPackBase
namespace Go.Proofs.YtckapcafpnlnoaaDoor
open Go.RowKit

/-- A schema and a message in the first two blocks that a call makes. -/
def WDuo (w : World) (st v : Int) (A : Option Addr) (len cap : Nat) (m : ByteArray) (B : Option Addr) (n c : Nat) (u : World) : Prop :=
  Below w.heap.size w u ∧ Box u w.heap.size st v A len cap ∧ MBox u (w.heap.size + 1) m B n c
theorem WDuo.below {w : World} {st v : Int} {A : Option Addr} {len cap : Nat} {m : ByteArray} {B : Option Addr} {n c : Nat} {u u' : World} (h : WDuo w st v A len cap m B n c u) (hb : Below u.heap.size u u') : WDuo w st v A len cap m B n c u' :=
  ⟨hbt h.1 hb, h.2.1.below hb, h.2.2.below hb⟩
theorem wduo_new (w : World) (st v : Int) (A : Option Addr) (len cap : Nat) (m : ByteArray) (B : Option Addr) (n c : Nat) : WDuo w st v A len cap m B n c ((w.alloc (.cells #[.int .i64 st, .int .i64 v, .slice A len cap] 30)).alloc (.cells #[.string m, .slice B n c] 33)) :=
  ⟨hbt (below_al _ _) (below_al _ _), (box_new _ _ _ _ _ _).below (below_al _ _), heap_al _ _ _ (by simp)⟩

set_option maxRecDepth 100000 in
set_option maxHeartbeats 12800000 in
theorem wbytes_any (k : Nat) (v : Int) (A : Option Addr) (ca : Nat) (sl : List Sp) (m : ByteArray) (B : Option Addr) (cb : Nat) (l : List Item) (w : World) (hI : Spl w A sl) (hB : Tlvs w B l) (hn : sl.length ≤ 1000) (hl : l.length ≤ 900) (hk : k = 1 ∨ k = 2) (h : msgN (k : Int) v sl m l = (0, 0)) :
    Calls Tryd.prog 16 #[.agg #[.int .i64 (k : Int), .int .i64 v, .slice A sl.length ca], .agg #[.string m, .slice B l.length cb]] w fun e w' => e = .returned (.string ⟨(encL k sl m l).toArray⟩) ∧ Below w.heap.size w w' := by
  have hall := valid_all h
  have hone := (tags_one hall.2).2
  have HX := Lib.hid (fun W => wrtype_yes k m W hall.1 hk)
  have HN : Hid (∀ W, Tlvs W B l → Calls Tryd.prog 40 #[.agg #[.string m, .slice B l.length cb]] W fun e w' => ∃ x, e = .returned x ∧ ∃ A' c', x = .slice A' l.length c' ∧ Ints w' A' (tagsOf l) ∧ Below W.heap.size W w') := fun W hW => (mnumbers_any m B cb l W hW (by omega)).mono fun e w' ⟨A', c', he, ht, hb⟩ => ⟨_, he, A', c', by rw [tags_length], ht, hb⟩
  have HP : Hid (∀ A' c' W, Ints W A' (tagsOf l) → Calls Tryd.prog 39 #[.int .i64 (k : Int), .slice A' l.length c'] W fun e w' => e = .returned (.tuple #[.string ⟨(setL k l).toArray⟩, .bool true]) ∧ Below W.heap.size W w') := fun A' c' W hW => by
    have := refPut_ok k A' c' (tagsOf l) W hk hW (by rw [tags_length]; omega) hone
    rw [tags_length, boutL_of] at this
    exact this
  have HF := Lib.hid (fun (n : Int) W hW => sreffind_any (k : Int) v A ca sl n W hW hn)
  have HC : Hid (∀ j a s, j < l.length → itemAt l j = (a, s) → ∃ k2, k2 < sl.length ∧ fndI a 0 sl = (k2 : Int) ∧ (⟨(cellL k sl (a, s)).toArray⟩ : ByteArray).size ≤ 2001 ∧ ∀ x1 x2 x3 x4 x5 W, spAt sl k2 = (x1, x2, x3, x4, x5) → Calls Tryd.prog 41 #[.int .i64 (k : Int), .agg #[.int .i64 x1, .int .i64 x2, .int .i64 x3, .int .i64 x4, .int .i64 x5], .string s] W fun e w' => e = .returned (.tuple #[.string ⟨(cellL k sl (a, s)).toArray⟩, .int .i64 0]) ∧ Below W.heap.size W w') := fun j a s hj hx => by
    have ho := hall.2 _ (List.getElem_mem hj)
    rw [← itemAt_get hj, hx] at ho
    rcases fnd_rel a sl 0 with ⟨g1, _⟩ | ⟨k2, hk2, g2, g1⟩
    · exact absurd ho.1 (by rw [g1]; decide)
    · refine ⟨k2, hk2, by rw [g2, Nat.zero_add], by rw [mk_size]; exact (cell_len ho).2, fun x1 x2 x3 x4 x5 W hy => ?_⟩
      have h5 := ho.2
      rw [show (a, s).1 = a from rfl, g1, hy] at h5
      have h6 := crput_ok k x1 x2 x3 x4 x5 s W hk h5
      rw [show cellL k sl (a, s) = cputL k x2 x3 s.data.toList from by unfold cellL; rw [show (a, s).1 = a from rfl, g1, hy]]
      exact h6
  have HLN : Hid (∀ j, (typL k m.data.toList ++ (setL k l ++ fldsL k sl (l.take j))).length ≤ 3000000) := fun j => by
    have h1 := typ_len (st := k) hall.1
    have h2 := wset_len k l
    have h3 := flds_len (st := k) hall.2
    have h4 := flds_part k sl l j
    rw [List.length_append, List.length_append]
    split at h1 <;> omega
  have HE : Hid (encL k sl m l = typL k m.data.toList ++ (setL k l ++ fldsL k sl l)) := rfl
  have HX1 : Hid ((⟨(typL k m.data.toList).toArray⟩ : ByteArray).data.toList = typL k m.data.toList) := mk_list _
  have HX2 : Hid ((⟨(setL k l).toArray⟩ : ByteArray).data.toList = setL k l) := mk_list _
  have hz1 : (⟨(typL k m.data.toList).toArray⟩ : ByteArray).size ≤ 4 := by
    rw [mk_size]
    have h1 := typ_len (st := k) hall.1
    split at h1 <;> omega
  have hz2 : (⟨(setL k l).toArray⟩ : ByteArray).size ≤ 32 := by
    rw [mk_size]; exact wset_len k l
  have HFS : Hid (∀ j, j < l.length → fldsL k sl (l.take (j + 1)) = fldsL k sl (l.take j) ++ cellL k sl (itemAt l j)) := fun j hj => flds_step k sl hj
  have HT := Lib.hid (wduo_new w (k : Int) v A sl.length ca m B l.length cb)
  have HI := Lib.hid (hI.below HT.out.1)
  have HL := Lib.hid (hB.below HT.out.1)
  clear hI hB hn hall hone h hk
  generalize typL k m.data.toList = ty at *
  generalize setL k l = se at *
  generalize (⟨ty.toArray⟩ : ByteArray) = x at *
  generalize (⟨se.toArray⟩ : ByteArray) = y at *
  have hadd : ∀ W : World, (Op.stringOp .add x y).run Tryd.prog W = .ok (.string (x ++ y)) W := fun W => run_string_add_sum W x y (by omega)
  clear hz1 hz2
  generalize hsl : sl.length = len at *
  have HSL := Lib.hid hsl
  clear hsl
  generalize hlen : l.length = n at *
  have HLEN := Lib.hid hlen
  clear hlen
  generalize encL k sl m l = E at *
  go_enter Tryd.func16, Tryd.ntmps16
  go_wp2_with fail
  generalize (w.alloc (.cells #[.int .i64 (k : Int), .int .i64 v, .slice A len ca] 30)).alloc (.cells #[.string m, .slice B n cb] 33) = U at *
  refine wp_region_noPanic ?_
  refine wp_region_held_drew (S := (fun u => Below U.heap.size U u)) (by kernel_rfl) ((Below.refl _ _).drew) (fun hS => ?_)
  refine give_val (i := 0) (v := ?_) rfl (by kernel_rfl) (by kernel_rfl) (by kernel_rfl) (fun _ _ _ h => h) (by rfl) (fun u hu => ?_) hS ?_
  rotate_left
  · ((have hT := HT.out.below hu; obtain ⟨b0, b1, b2⟩ := obj_cells3 hT.2.1; obtain ⟨b3, b4, _, _⟩ := obj_cells hT.2.2; clear hT); go_simp; try (with_reducible rfl))
  try simp only [Act.put, List.setIfInBounds_toArray, List.set_cons_zero, List.set_cons_succ]
  refine give_val (i := 1) (v := ?_) rfl (by kernel_rfl) (by kernel_rfl) (by kernel_rfl) (fun _ _ _ h => h) (by rfl) (fun u hu => ?_) hS ?_
  rotate_left
  · ((have hT := HT.out.below hu; obtain ⟨b0, b1, b2⟩ := obj_cells3 hT.2.1; obtain ⟨b3, b4, _, _⟩ := obj_cells hT.2.2; clear hT); go_simp; try (with_reducible rfl))
  try simp only [Act.put, List.setIfInBounds_toArray, List.set_cons_zero, List.set_cons_succ]
  refine give_val (i := 2) (v := ?_) rfl (by kernel_rfl) (by kernel_rfl) (by kernel_rfl) (fun _ _ _ h => h) (by rfl) (fun u hu => ?_) hS ?_
  rotate_left
  · ((have hT := HT.out.below hu; obtain ⟨b0, b1, b2⟩ := obj_cells3 hT.2.1; obtain ⟨b3, b4, _, _⟩ := obj_cells hT.2.2; clear hT); go_simp; try (with_reducible rfl))
  try simp only [Act.put, List.setIfInBounds_toArray, List.set_cons_zero, List.set_cons_succ]
  refine only_some (i := 3) 40 #[.agg #[.string m, .slice B n cb]] rfl (by kernel_rfl) (by rfl) ((HN.out _ (HL.out.below hS))) ?_ ?_
  · (go_simp; try (with_reducible rfl))
  intro v3 w3 hT
  obtain ⟨A3, c3, rfl, ht3, hb3⟩ := hT
  have hS' := hbt hS hb3
  refine ⟨hS', ?_⟩
  clear hS
  have hS := hS'; clear hS'
  try simp only [Act.put, List.setIfInBounds_toArray, List.set_cons_zero, List.set_cons_succ]
  refine only_call (i := 4) 39 #[.int .i64 (k : Int), .slice A3 n c3] rfl (by kernel_rfl) (by rfl) ((HP.out A3 c3 _ ht3).mono fun e w' he => ⟨he.1, hbt hS he.2⟩) ?_ ?_
  · (go_simp; try (with_reducible rfl))
  clear hS
  intro w4 hS
  try simp only [Act.put, List.setIfInBounds_toArray, List.set_cons_zero, List.set_cons_succ]
  refine give_val (i := 5) (v := ?_) rfl (by kernel_rfl) (by kernel_rfl) (by kernel_rfl) (fun _ _ _ h => h) (by rfl) (fun u hu => ?_) hS ?_
  rotate_left
  · ((have hT := HT.out.below hu; obtain ⟨b0, b1, b2⟩ := obj_cells3 hT.2.1; obtain ⟨b3, b4, _, _⟩ := obj_cells hT.2.2; clear hT); go_simp; try (with_reducible rfl))
  try simp only [Act.put, List.setIfInBounds_toArray, List.set_cons_zero, List.set_cons_succ]
  refine give_val (i := 6) (v := ?_) rfl (by kernel_rfl) (by kernel_rfl) (by kernel_rfl) (fun _ _ _ h => h) (by rfl) (fun u hu => ?_) hS ?_
  rotate_left
  · ((have hT := HT.out.below hu; obtain ⟨b0, b1, b2⟩ := obj_cells3 hT.2.1; obtain ⟨b3, b4, _, _⟩ := obj_cells hT.2.2; clear hT); go_simp; try (with_reducible rfl))
  try simp only [Act.put, List.setIfInBounds_toArray, List.set_cons_zero, List.set_cons_succ]
  refine give_val (i := 7) (v := ?_) rfl (by kernel_rfl) (by kernel_rfl) (by kernel_rfl) (fun _ _ _ h => h) (by rfl) (fun u hu => ?_) hS ?_
  rotate_left
  · ((have hT := HT.out.below hu; obtain ⟨b0, b1, b2⟩ := obj_cells3 hT.2.1; obtain ⟨b3, b4, _, _⟩ := obj_cells hT.2.2; clear hT); go_simp; try (with_reducible rfl))
  try simp only [Act.put, List.setIfInBounds_toArray, List.set_cons_zero, List.set_cons_succ]
  refine give_val (i := 8) (v := ?_) rfl (by kernel_rfl) (by kernel_rfl) (by kernel_rfl) (fun _ _ _ h => h) (by rfl) (fun u hu => ?_) hS ?_
  rotate_left
  · ((have hT := HT.out.below hu; obtain ⟨b0, b1, b2⟩ := obj_cells3 hT.2.1; obtain ⟨b3, b4, _, _⟩ := obj_cells hT.2.2; clear hT); go_simp; try (with_reducible rfl))
  try simp only [Act.put, List.setIfInBounds_toArray, List.set_cons_zero, List.set_cons_succ]
  refine give_val (i := 9) (v := ?_) rfl (by kernel_rfl) (by kernel_rfl) (by kernel_rfl) (fun _ _ _ h => h) (by rfl) (fun u hu => ?_) hS ?_
  rotate_left
  · ((have hT := HT.out.below hu; obtain ⟨b0, b1, b2⟩ := obj_cells3 hT.2.1; obtain ⟨b3, b4, _, _⟩ := obj_cells hT.2.2; clear hT); go_simp; try (with_reducible rfl))
  try simp only [Act.put, List.setIfInBounds_toArray, List.set_cons_zero, List.set_cons_succ]
  refine wpAnyH_done (by kernel_rfl) (NoPanic.normal ?_) _
  have HT2 := Lib.hid (HT.out.below hS)
  have HI2 := Lib.hid (HI.out.below hS)
  have HL2 := Lib.hid (HL.out.below hS)
  clear hS ht3 HT HI HL
  rename World => w2
  obtain ⟨b0, b1, b2⟩ := obj_cells3 HT2.out.2.1
  obtain ⟨b3, b4, _, _⟩ := obj_cells HT2.out.2.2
  go_wp2_with fail
  refine (HX.out _).mono ?_
  rintro e w3 ⟨rfl, hb3⟩
  have HT3 := Lib.hid (HT2.out.below hb3)
  have HI3 := Lib.hid (HI2.out.below hb3)
  have HL3 := Lib.hid (HL2.out.below hb3)
  clear hb3 HT2 HI2 HL2 b0 b1 b2 b3 b4
  go_wp2_with fail
  clear hadd
  go_loopw [7, 8] (fun o i wr => ∃ (j : Nat) (z : ByteArray), j ≤ n ∧ i = .int .i64 (j : Int) ∧ o = .string z ∧ z.data.toList = ty ++ (se ++ fldsL k sl (l.take j)) ∧ Below w3.heap.size w3 wr) (fun _ i _ => n - (intOf i).toNat)
  case atStart => exact ⟨0, x ++ y, Nat.zero_le _, rfl, rfl, by rw [app_list, HX1.out, HX2.out]; simp [fldsL], Below.refl _ _⟩
  case round =>
    obtain ⟨j, z, hj, rfl, rfl, hz, hb⟩ := hrel
    have HT4 := Lib.hid (HT3.out.below hb)
    have HI4 := Lib.hid (HI3.out.below hb)
    have HL4 := Lib.hid (HL3.out.below hb)
    have HB := Lib.hid hb
    have HZ := Lib.hid hz
    obtain ⟨b3, b4, _, _⟩ := obj_cells HT4.out.2.2
    clear hz hb
    by_cases hlt : j < n
    · have hjl : j < l.length := by have := HLEN.out; omega
      obtain ⟨a, t, s, rfl, hx, e0, e1⟩ := HL4.out.at_ hjl
      obtain ⟨k2, hk2, hfi, hcs, hcp⟩ := HC.out j t s hlt hx
      have hk3 : k2 < len := by have := HSL.out; omega
      obtain ⟨a2, x1, x2, x3, x4, x5, rfl, hx5, d0, d1, d2, d3, d4⟩ := HI4.out.at_ (show k2 < sl.length by have := HSL.out; omega)
      have HFN := Lib.hid (fun W hW => HF.out t W hW)
      rw [hfi] at HFN
      have HCP := Lib.hid (fun W => hcp x1 x2 x3 x4 x5 W hx5)
      have HST := Lib.hid (HFS.out j hlt)
      rw [hx] at HST
      have HCL : Hid ((⟨(cellL k sl (t, s)).toArray⟩ : ByteArray).data.toList = cellL k sl (t, s)) := mk_list _
      generalize (⟨(cellL k sl (t, s)).toArray⟩ : ByteArray) = b at *
      have hadd : ∀ W : World, (Op.stringOp .add z b).run Tryd.prog W = .ok (.string (z ++ b)) W := fun W => run_string_add_sum W z b (by
        have h1 := HLN.out j
        rw [← HZ.out, list_size] at h1
        omega)
      clear hjl hx hk2 hfi hcs hcp hx5
      generalize cellL k sl (t, s) = cl at *
      go_wp2_with fail
      refine wp_region_noPanic ?_
      refine wp_region_held_drew (S := (fun u => Below wr.heap.size wr u)) (by kernel_rfl) ((Below.refl _ _).drew) (fun hS => ?_)
      refine give_val (i := 0) (v := ?_) rfl (by kernel_rfl) (by kernel_rfl) (by kernel_rfl) (fun _ _ _ h => h) (by rfl) (fun u hu => ?_) hS ?_
      rotate_left
      · ((have hT := HT4.out.below hu; obtain ⟨b0, b1, b2⟩ := obj_cells3 hT.2.1; obtain ⟨b3, b4, _, _⟩ := obj_cells hT.2.2; have q0 := (hu.cell (block_lt_of_cell d0)).trans d0; have q1 := (hu.cell (block_lt_of_cell d1)).trans d1; have q2 := (hu.cell (block_lt_of_cell d2)).trans d2; have q3 := (hu.cell (block_lt_of_cell d3)).trans d3; have q4 := (hu.cell (block_lt_of_cell d4)).trans d4; have p0 := (hu.cell (block_lt_of_cell e0)).trans e0; have p1 := (hu.cell (block_lt_of_cell e1)).trans e1; clear hT); go_simp; try (with_reducible rfl))
      try simp only [Act.put, List.setIfInBounds_toArray, List.set_cons_zero, List.set_cons_succ]
      refine give_val (i := 1) (v := ?_) rfl (by kernel_rfl) (by kernel_rfl) (by kernel_rfl) (fun _ _ _ h => h) (by rfl) (fun u hu => ?_) hS ?_
      rotate_left
      · ((have hT := HT4.out.below hu; obtain ⟨b0, b1, b2⟩ := obj_cells3 hT.2.1; obtain ⟨b3, b4, _, _⟩ := obj_cells hT.2.2; have q0 := (hu.cell (block_lt_of_cell d0)).trans d0; have q1 := (hu.cell (block_lt_of_cell d1)).trans d1; have q2 := (hu.cell (block_lt_of_cell d2)).trans d2; have q3 := (hu.cell (block_lt_of_cell d3)).trans d3; have q4 := (hu.cell (block_lt_of_cell d4)).trans d4; have p0 := (hu.cell (block_lt_of_cell e0)).trans e0; have p1 := (hu.cell (block_lt_of_cell e1)).trans e1; clear hT); go_simp; try (with_reducible rfl))
      try simp only [Act.put, List.setIfInBounds_toArray, List.set_cons_zero, List.set_cons_succ]
      refine give_val (i := 2) (v := ?_) rfl (by kernel_rfl) (by kernel_rfl) (by kernel_rfl) (fun _ _ _ h => h) (by rfl) (fun u hu => ?_) hS ?_
      rotate_left
      · ((have hT := HT4.out.below hu; obtain ⟨b0, b1, b2⟩ := obj_cells3 hT.2.1; obtain ⟨b3, b4, _, _⟩ := obj_cells hT.2.2; have q0 := (hu.cell (block_lt_of_cell d0)).trans d0; have q1 := (hu.cell (block_lt_of_cell d1)).trans d1; have q2 := (hu.cell (block_lt_of_cell d2)).trans d2; have q3 := (hu.cell (block_lt_of_cell d3)).trans d3; have q4 := (hu.cell (block_lt_of_cell d4)).trans d4; have p0 := (hu.cell (block_lt_of_cell e0)).trans e0; have p1 := (hu.cell (block_lt_of_cell e1)).trans e1; clear hT); go_simp; try (with_reducible rfl))
      try simp only [Act.put, List.setIfInBounds_toArray, List.set_cons_zero, List.set_cons_succ]
      refine give_val (i := 3) (v := ?_) rfl (by kernel_rfl) (by kernel_rfl) (by kernel_rfl) (fun _ _ _ h => h) (by rfl) (fun u hu => ?_) hS ?_
      rotate_left
      · ((have hT := HT4.out.below hu; obtain ⟨b0, b1, b2⟩ := obj_cells3 hT.2.1; obtain ⟨b3, b4, _, _⟩ := obj_cells hT.2.2; have q0 := (hu.cell (block_lt_of_cell d0)).trans d0; have q1 := (hu.cell (block_lt_of_cell d1)).trans d1; have q2 := (hu.cell (block_lt_of_cell d2)).trans d2; have q3 := (hu.cell (block_lt_of_cell d3)).trans d3; have q4 := (hu.cell (block_lt_of_cell d4)).trans d4; have p0 := (hu.cell (block_lt_of_cell e0)).trans e0; have p1 := (hu.cell (block_lt_of_cell e1)).trans e1; clear hT); go_simp; try (with_reducible rfl))
      try simp only [Act.put, List.setIfInBounds_toArray, List.set_cons_zero, List.set_cons_succ]
      refine give_val (i := 4) (v := ?_) rfl (by kernel_rfl) (by kernel_rfl) (by kernel_rfl) (fun _ _ _ h => h) (by rfl) (fun u hu => ?_) hS ?_
      rotate_left
      · ((have hT := HT4.out.below hu; obtain ⟨b0, b1, b2⟩ := obj_cells3 hT.2.1; obtain ⟨b3, b4, _, _⟩ := obj_cells hT.2.2; have q0 := (hu.cell (block_lt_of_cell d0)).trans d0; have q1 := (hu.cell (block_lt_of_cell d1)).trans d1; have q2 := (hu.cell (block_lt_of_cell d2)).trans d2; have q3 := (hu.cell (block_lt_of_cell d3)).trans d3; have q4 := (hu.cell (block_lt_of_cell d4)).trans d4; have p0 := (hu.cell (block_lt_of_cell e0)).trans e0; have p1 := (hu.cell (block_lt_of_cell e1)).trans e1; clear hT); go_simp; try (with_reducible rfl))
      try simp only [Act.put, List.setIfInBounds_toArray, List.set_cons_zero, List.set_cons_succ]
      refine give_val (i := 5) (v := ?_) rfl (by kernel_rfl) (by kernel_rfl) (by kernel_rfl) (fun _ _ _ h => h) (by rfl) (fun u hu => ?_) hS ?_
      rotate_left
      · ((have hT := HT4.out.below hu; obtain ⟨b0, b1, b2⟩ := obj_cells3 hT.2.1; obtain ⟨b3, b4, _, _⟩ := obj_cells hT.2.2; have q0 := (hu.cell (block_lt_of_cell d0)).trans d0; have q1 := (hu.cell (block_lt_of_cell d1)).trans d1; have q2 := (hu.cell (block_lt_of_cell d2)).trans d2; have q3 := (hu.cell (block_lt_of_cell d3)).trans d3; have q4 := (hu.cell (block_lt_of_cell d4)).trans d4; have p0 := (hu.cell (block_lt_of_cell e0)).trans e0; have p1 := (hu.cell (block_lt_of_cell e1)).trans e1; clear hT); go_simp; try (with_reducible rfl))
      try simp only [Act.put, List.setIfInBounds_toArray, List.set_cons_zero, List.set_cons_succ]
      refine give_val (i := 6) (v := ?_) rfl (by kernel_rfl) (by kernel_rfl) (by kernel_rfl) (fun _ _ _ h => h) (by rfl) (fun u hu => ?_) hS ?_
      rotate_left
      · ((have hT := HT4.out.below hu; obtain ⟨b0, b1, b2⟩ := obj_cells3 hT.2.1; obtain ⟨b3, b4, _, _⟩ := obj_cells hT.2.2; have q0 := (hu.cell (block_lt_of_cell d0)).trans d0; have q1 := (hu.cell (block_lt_of_cell d1)).trans d1; have q2 := (hu.cell (block_lt_of_cell d2)).trans d2; have q3 := (hu.cell (block_lt_of_cell d3)).trans d3; have q4 := (hu.cell (block_lt_of_cell d4)).trans d4; have p0 := (hu.cell (block_lt_of_cell e0)).trans e0; have p1 := (hu.cell (block_lt_of_cell e1)).trans e1; clear hT); go_simp; try (with_reducible rfl))
      try simp only [Act.put, List.setIfInBounds_toArray, List.set_cons_zero, List.set_cons_succ]
      refine give_val (i := 7) (v := ?_) rfl (by kernel_rfl) (by kernel_rfl) (by kernel_rfl) (fun _ _ _ h => h) (by rfl) (fun u hu => ?_) hS ?_
      rotate_left
      · ((have hT := HT4.out.below hu; obtain ⟨b0, b1, b2⟩ := obj_cells3 hT.2.1; obtain ⟨b3, b4, _, _⟩ := obj_cells hT.2.2; have q0 := (hu.cell (block_lt_of_cell d0)).trans d0; have q1 := (hu.cell (block_lt_of_cell d1)).trans d1; have q2 := (hu.cell (block_lt_of_cell d2)).trans d2; have q3 := (hu.cell (block_lt_of_cell d3)).trans d3; have q4 := (hu.cell (block_lt_of_cell d4)).trans d4; have p0 := (hu.cell (block_lt_of_cell e0)).trans e0; have p1 := (hu.cell (block_lt_of_cell e1)).trans e1; clear hT); go_simp; try (with_reducible rfl))
      try simp only [Act.put, List.setIfInBounds_toArray, List.set_cons_zero, List.set_cons_succ]
      refine give_val (i := 8) (v := ?_) rfl (by kernel_rfl) (by kernel_rfl) (by kernel_rfl) (fun _ _ _ h => h) (by rfl) (fun u hu => ?_) hS ?_
      rotate_left
      · ((have hT := HT4.out.below hu; obtain ⟨b0, b1, b2⟩ := obj_cells3 hT.2.1; obtain ⟨b3, b4, _, _⟩ := obj_cells hT.2.2; have q0 := (hu.cell (block_lt_of_cell d0)).trans d0; have q1 := (hu.cell (block_lt_of_cell d1)).trans d1; have q2 := (hu.cell (block_lt_of_cell d2)).trans d2; have q3 := (hu.cell (block_lt_of_cell d3)).trans d3; have q4 := (hu.cell (block_lt_of_cell d4)).trans d4; have p0 := (hu.cell (block_lt_of_cell e0)).trans e0; have p1 := (hu.cell (block_lt_of_cell e1)).trans e1; clear hT); go_simp; try (with_reducible rfl))
      try simp only [Act.put, List.setIfInBounds_toArray, List.set_cons_zero, List.set_cons_succ]
      refine give_val (i := 9) (v := ?_) rfl (by kernel_rfl) (by kernel_rfl) (by kernel_rfl) (fun _ _ _ h => h) (by rfl) (fun u hu => ?_) hS ?_
      rotate_left
      · ((have hT := HT4.out.below hu; obtain ⟨b0, b1, b2⟩ := obj_cells3 hT.2.1; obtain ⟨b3, b4, _, _⟩ := obj_cells hT.2.2; have q0 := (hu.cell (block_lt_of_cell d0)).trans d0; have q1 := (hu.cell (block_lt_of_cell d1)).trans d1; have q2 := (hu.cell (block_lt_of_cell d2)).trans d2; have q3 := (hu.cell (block_lt_of_cell d3)).trans d3; have q4 := (hu.cell (block_lt_of_cell d4)).trans d4; have p0 := (hu.cell (block_lt_of_cell e0)).trans e0; have p1 := (hu.cell (block_lt_of_cell e1)).trans e1; clear hT); go_simp; try (with_reducible rfl))
      try simp only [Act.put, List.setIfInBounds_toArray, List.set_cons_zero, List.set_cons_succ]
      refine give_val (i := 10) (v := ?_) rfl (by kernel_rfl) (by kernel_rfl) (by kernel_rfl) (fun _ _ _ h => h) (by rfl) (fun u hu => ?_) hS ?_
      rotate_left
      · ((have hT := HT4.out.below hu; obtain ⟨b0, b1, b2⟩ := obj_cells3 hT.2.1; obtain ⟨b3, b4, _, _⟩ := obj_cells hT.2.2; have q0 := (hu.cell (block_lt_of_cell d0)).trans d0; have q1 := (hu.cell (block_lt_of_cell d1)).trans d1; have q2 := (hu.cell (block_lt_of_cell d2)).trans d2; have q3 := (hu.cell (block_lt_of_cell d3)).trans d3; have q4 := (hu.cell (block_lt_of_cell d4)).trans d4; have p0 := (hu.cell (block_lt_of_cell e0)).trans e0; have p1 := (hu.cell (block_lt_of_cell e1)).trans e1; clear hT); go_simp; try (with_reducible rfl))
      try simp only [Act.put, List.setIfInBounds_toArray, List.set_cons_zero, List.set_cons_succ]
      refine give_val (i := 14) (v := ?_) rfl (by kernel_rfl) (by kernel_rfl) (by kernel_rfl) (fun _ _ _ h => h) (by rfl) (fun u hu => ?_) hS ?_
      rotate_left
      · ((have hT := HT4.out.below hu; obtain ⟨b0, b1, b2⟩ := obj_cells3 hT.2.1; obtain ⟨b3, b4, _, _⟩ := obj_cells hT.2.2; have q0 := (hu.cell (block_lt_of_cell d0)).trans d0; have q1 := (hu.cell (block_lt_of_cell d1)).trans d1; have q2 := (hu.cell (block_lt_of_cell d2)).trans d2; have q3 := (hu.cell (block_lt_of_cell d3)).trans d3; have q4 := (hu.cell (block_lt_of_cell d4)).trans d4; have p0 := (hu.cell (block_lt_of_cell e0)).trans e0; have p1 := (hu.cell (block_lt_of_cell e1)).trans e1; clear hT); go_simp; try (with_reducible rfl))
      try simp only [Act.put, List.setIfInBounds_toArray, List.set_cons_zero, List.set_cons_succ]
      refine give_val (i := 15) (v := ?_) rfl (by kernel_rfl) (by kernel_rfl) (by kernel_rfl) (fun _ _ _ h => h) (by rfl) (fun u hu => ?_) hS ?_
      rotate_left
      · ((have hT := HT4.out.below hu; obtain ⟨b0, b1, b2⟩ := obj_cells3 hT.2.1; obtain ⟨b3, b4, _, _⟩ := obj_cells hT.2.2; have q0 := (hu.cell (block_lt_of_cell d0)).trans d0; have q1 := (hu.cell (block_lt_of_cell d1)).trans d1; have q2 := (hu.cell (block_lt_of_cell d2)).trans d2; have q3 := (hu.cell (block_lt_of_cell d3)).trans d3; have q4 := (hu.cell (block_lt_of_cell d4)).trans d4; have p0 := (hu.cell (block_lt_of_cell e0)).trans e0; have p1 := (hu.cell (block_lt_of_cell e1)).trans e1; clear hT); go_simp; try (with_reducible rfl))
      try simp only [Act.put, List.setIfInBounds_toArray, List.set_cons_zero, List.set_cons_succ]
      refine give_val (i := 16) (v := ?_) rfl (by kernel_rfl) (by kernel_rfl) (by kernel_rfl) (fun _ _ _ h => h) (by rfl) (fun u hu => ?_) hS ?_
      rotate_left
      · ((have hT := HT4.out.below hu; obtain ⟨b0, b1, b2⟩ := obj_cells3 hT.2.1; obtain ⟨b3, b4, _, _⟩ := obj_cells hT.2.2; have q0 := (hu.cell (block_lt_of_cell d0)).trans d0; have q1 := (hu.cell (block_lt_of_cell d1)).trans d1; have q2 := (hu.cell (block_lt_of_cell d2)).trans d2; have q3 := (hu.cell (block_lt_of_cell d3)).trans d3; have q4 := (hu.cell (block_lt_of_cell d4)).trans d4; have p0 := (hu.cell (block_lt_of_cell e0)).trans e0; have p1 := (hu.cell (block_lt_of_cell e1)).trans e1; clear hT); go_simp; try (with_reducible rfl))
      try simp only [Act.put, List.setIfInBounds_toArray, List.set_cons_zero, List.set_cons_succ]
      refine give_val (i := 17) (v := ?_) rfl (by kernel_rfl) (by kernel_rfl) (by kernel_rfl) (fun _ _ _ h => h) (by rfl) (fun u hu => ?_) hS ?_
      rotate_left
      · ((have hT := HT4.out.below hu; obtain ⟨b0, b1, b2⟩ := obj_cells3 hT.2.1; obtain ⟨b3, b4, _, _⟩ := obj_cells hT.2.2; have q0 := (hu.cell (block_lt_of_cell d0)).trans d0; have q1 := (hu.cell (block_lt_of_cell d1)).trans d1; have q2 := (hu.cell (block_lt_of_cell d2)).trans d2; have q3 := (hu.cell (block_lt_of_cell d3)).trans d3; have q4 := (hu.cell (block_lt_of_cell d4)).trans d4; have p0 := (hu.cell (block_lt_of_cell e0)).trans e0; have p1 := (hu.cell (block_lt_of_cell e1)).trans e1; clear hT); go_simp; try (with_reducible rfl))
      try simp only [Act.put, List.setIfInBounds_toArray, List.set_cons_zero, List.set_cons_succ]
      refine give_val (i := 18) (v := ?_) rfl (by kernel_rfl) (by kernel_rfl) (by kernel_rfl) (fun _ _ _ h => h) (by rfl) (fun u hu => ?_) hS ?_
      rotate_left
      · ((have hT := HT4.out.below hu; obtain ⟨b0, b1, b2⟩ := obj_cells3 hT.2.1; obtain ⟨b3, b4, _, _⟩ := obj_cells hT.2.2; have q0 := (hu.cell (block_lt_of_cell d0)).trans d0; have q1 := (hu.cell (block_lt_of_cell d1)).trans d1; have q2 := (hu.cell (block_lt_of_cell d2)).trans d2; have q3 := (hu.cell (block_lt_of_cell d3)).trans d3; have q4 := (hu.cell (block_lt_of_cell d4)).trans d4; have p0 := (hu.cell (block_lt_of_cell e0)).trans e0; have p1 := (hu.cell (block_lt_of_cell e1)).trans e1; clear hT); go_simp; try (with_reducible rfl))
      try simp only [Act.put, List.setIfInBounds_toArray, List.set_cons_zero, List.set_cons_succ]
      refine give_val (i := 19) (v := ?_) rfl (by kernel_rfl) (by kernel_rfl) (by kernel_rfl) (fun _ _ _ h => h) (by rfl) (fun u hu => ?_) hS ?_
      rotate_left
      · ((have hT := HT4.out.below hu; obtain ⟨b0, b1, b2⟩ := obj_cells3 hT.2.1; obtain ⟨b3, b4, _, _⟩ := obj_cells hT.2.2; have q0 := (hu.cell (block_lt_of_cell d0)).trans d0; have q1 := (hu.cell (block_lt_of_cell d1)).trans d1; have q2 := (hu.cell (block_lt_of_cell d2)).trans d2; have q3 := (hu.cell (block_lt_of_cell d3)).trans d3; have q4 := (hu.cell (block_lt_of_cell d4)).trans d4; have p0 := (hu.cell (block_lt_of_cell e0)).trans e0; have p1 := (hu.cell (block_lt_of_cell e1)).trans e1; clear hT); go_simp; try (with_reducible rfl))
      try simp only [Act.put, List.setIfInBounds_toArray, List.set_cons_zero, List.set_cons_succ]
      refine only_call (i := 11) 37 #[.agg #[.int .i64 (k : Int), .int .i64 v, .slice (some a2) len ca], .int .i64 t] rfl (by kernel_rfl) (by rfl) ((HFN.out _ (HI4.out.below hS)).mono fun e w' he => ⟨he.1, hbt hS he.2⟩) ?_ ?_
      · (go_simp; try (with_reducible rfl))
      clear hS
      intro w11 hS
      try simp only [Act.put, List.setIfInBounds_toArray, List.set_cons_zero, List.set_cons_succ]
      refine give_val (i := 12) (v := ?_) rfl (by kernel_rfl) (by kernel_rfl) (by kernel_rfl) (fun _ _ _ h => h) (by rfl) (fun u hu => ?_) hS ?_
      rotate_left
      · ((have hT := HT4.out.below hu; obtain ⟨b0, b1, b2⟩ := obj_cells3 hT.2.1; obtain ⟨b3, b4, _, _⟩ := obj_cells hT.2.2; have q0 := (hu.cell (block_lt_of_cell d0)).trans d0; have q1 := (hu.cell (block_lt_of_cell d1)).trans d1; have q2 := (hu.cell (block_lt_of_cell d2)).trans d2; have q3 := (hu.cell (block_lt_of_cell d3)).trans d3; have q4 := (hu.cell (block_lt_of_cell d4)).trans d4; have p0 := (hu.cell (block_lt_of_cell e0)).trans e0; have p1 := (hu.cell (block_lt_of_cell e1)).trans e1; clear hT); go_simp; try (with_reducible rfl))
      try simp only [Act.put, List.setIfInBounds_toArray, List.set_cons_zero, List.set_cons_succ]
      refine give_val (i := 13) (v := ?_) rfl (by kernel_rfl) (by kernel_rfl) (by kernel_rfl) (fun _ _ _ h => h) (by rfl) (fun u hu => ?_) hS ?_
      rotate_left
      · ((have hT := HT4.out.below hu; obtain ⟨b0, b1, b2⟩ := obj_cells3 hT.2.1; obtain ⟨b3, b4, _, _⟩ := obj_cells hT.2.2; have q0 := (hu.cell (block_lt_of_cell d0)).trans d0; have q1 := (hu.cell (block_lt_of_cell d1)).trans d1; have q2 := (hu.cell (block_lt_of_cell d2)).trans d2; have q3 := (hu.cell (block_lt_of_cell d3)).trans d3; have q4 := (hu.cell (block_lt_of_cell d4)).trans d4; have p0 := (hu.cell (block_lt_of_cell e0)).trans e0; have p1 := (hu.cell (block_lt_of_cell e1)).trans e1; clear hT); go_simp; try (with_reducible rfl))
      try simp only [Act.put, List.setIfInBounds_toArray, List.set_cons_zero, List.set_cons_succ]
      refine only_call (i := 20) 41 #[.int .i64 (k : Int), .agg #[.int .i64 x1, .int .i64 x2, .int .i64 x3, .int .i64 x4, .int .i64 x5], .string s] rfl (by kernel_rfl) (by rfl) ((HCP.out _).mono fun e w' he => ⟨he.1, hbt hS he.2⟩) ?_ ?_
      · (go_simp; try (with_reducible rfl))
      clear hS
      intro w20 hS
      try simp only [Act.put, List.setIfInBounds_toArray, List.set_cons_zero, List.set_cons_succ]
      refine give_val (i := 21) (v := ?_) rfl (by kernel_rfl) (by kernel_rfl) (by kernel_rfl) (fun _ _ _ h => h) (by rfl) (fun u hu => ?_) hS ?_
      rotate_left
      · ((have hT := HT4.out.below hu; obtain ⟨b0, b1, b2⟩ := obj_cells3 hT.2.1; obtain ⟨b3, b4, _, _⟩ := obj_cells hT.2.2; have q0 := (hu.cell (block_lt_of_cell d0)).trans d0; have q1 := (hu.cell (block_lt_of_cell d1)).trans d1; have q2 := (hu.cell (block_lt_of_cell d2)).trans d2; have q3 := (hu.cell (block_lt_of_cell d3)).trans d3; have q4 := (hu.cell (block_lt_of_cell d4)).trans d4; have p0 := (hu.cell (block_lt_of_cell e0)).trans e0; have p1 := (hu.cell (block_lt_of_cell e1)).trans e1; clear hT); go_simp; try (with_reducible rfl))
      try simp only [Act.put, List.setIfInBounds_toArray, List.set_cons_zero, List.set_cons_succ]
      refine give_val (i := 22) (v := ?_) rfl (by kernel_rfl) (by kernel_rfl) (by kernel_rfl) (fun _ _ _ h => h) (by rfl) (fun u hu => ?_) hS ?_
      rotate_left
      · ((have hT := HT4.out.below hu; obtain ⟨b0, b1, b2⟩ := obj_cells3 hT.2.1; obtain ⟨b3, b4, _, _⟩ := obj_cells hT.2.2; have q0 := (hu.cell (block_lt_of_cell d0)).trans d0; have q1 := (hu.cell (block_lt_of_cell d1)).trans d1; have q2 := (hu.cell (block_lt_of_cell d2)).trans d2; have q3 := (hu.cell (block_lt_of_cell d3)).trans d3; have q4 := (hu.cell (block_lt_of_cell d4)).trans d4; have p0 := (hu.cell (block_lt_of_cell e0)).trans e0; have p1 := (hu.cell (block_lt_of_cell e1)).trans e1; clear hT); go_simp; try (with_reducible rfl))
      try simp only [Act.put, List.setIfInBounds_toArray, List.set_cons_zero, List.set_cons_succ]
      refine give_val (i := 23) (v := ?_) rfl (by kernel_rfl) (by kernel_rfl) (by kernel_rfl) (fun _ _ _ h => h) (by rfl) (fun u hu => ?_) hS ?_
      rotate_left
      · ((have hT := HT4.out.below hu; obtain ⟨b0, b1, b2⟩ := obj_cells3 hT.2.1; obtain ⟨b3, b4, _, _⟩ := obj_cells hT.2.2; have q0 := (hu.cell (block_lt_of_cell d0)).trans d0; have q1 := (hu.cell (block_lt_of_cell d1)).trans d1; have q2 := (hu.cell (block_lt_of_cell d2)).trans d2; have q3 := (hu.cell (block_lt_of_cell d3)).trans d3; have q4 := (hu.cell (block_lt_of_cell d4)).trans d4; have p0 := (hu.cell (block_lt_of_cell e0)).trans e0; have p1 := (hu.cell (block_lt_of_cell e1)).trans e1; clear hT); go_simp; try (with_reducible rfl))
      try simp only [Act.put, List.setIfInBounds_toArray, List.set_cons_zero, List.set_cons_succ]
      refine give_val (i := 24) (v := ?_) rfl (by kernel_rfl) (by kernel_rfl) (by kernel_rfl) (fun _ _ _ h => h) (by rfl) (fun u hu => ?_) hS ?_
      rotate_left
      · ((have hT := HT4.out.below hu; obtain ⟨b0, b1, b2⟩ := obj_cells3 hT.2.1; obtain ⟨b3, b4, _, _⟩ := obj_cells hT.2.2; have q0 := (hu.cell (block_lt_of_cell d0)).trans d0; have q1 := (hu.cell (block_lt_of_cell d1)).trans d1; have q2 := (hu.cell (block_lt_of_cell d2)).trans d2; have q3 := (hu.cell (block_lt_of_cell d3)).trans d3; have q4 := (hu.cell (block_lt_of_cell d4)).trans d4; have p0 := (hu.cell (block_lt_of_cell e0)).trans e0; have p1 := (hu.cell (block_lt_of_cell e1)).trans e1; clear hT); go_simp; try (with_reducible rfl))
      try simp only [Act.put, List.setIfInBounds_toArray, List.set_cons_zero, List.set_cons_succ]
      refine give_val (i := 25) (v := ?_) rfl (by kernel_rfl) (by kernel_rfl) (by kernel_rfl) (fun _ _ _ h => h) (by rfl) (fun u hu => ?_) hS ?_
      rotate_left
      · ((have hT := HT4.out.below hu; obtain ⟨b0, b1, b2⟩ := obj_cells3 hT.2.1; obtain ⟨b3, b4, _, _⟩ := obj_cells hT.2.2; have q0 := (hu.cell (block_lt_of_cell d0)).trans d0; have q1 := (hu.cell (block_lt_of_cell d1)).trans d1; have q2 := (hu.cell (block_lt_of_cell d2)).trans d2; have q3 := (hu.cell (block_lt_of_cell d3)).trans d3; have q4 := (hu.cell (block_lt_of_cell d4)).trans d4; have p0 := (hu.cell (block_lt_of_cell e0)).trans e0; have p1 := (hu.cell (block_lt_of_cell e1)).trans e1; clear hT); go_simp; try (with_reducible rfl))
      try simp only [Act.put, List.setIfInBounds_toArray, List.set_cons_zero, List.set_cons_succ]
      refine wpAnyH_done (by kernel_rfl) (NoPanic.normal ?_) _
      have HB5 := Lib.hid (hbt HB.out hS)
      clear hS d0 d1 d2 d3 d4 e0 e1 b3 b4
      go_wp2
      go_roundw
      case rel => exact ⟨j + 1, z ++ b, by omega, by go_num, rfl, by rw [app_list, HZ.out, HCL.out, HST.out]; simp only [List.append_assoc], HB5.out⟩
      case measure => simp [intOf]; omega
    · have he : l.take j = l := items_all (by have := HLEN.out; omega)
      rw [he, ← HE.out] at HZ
      clear he
      go_wp2
      go_ret
      have hze : z = ⟨E.toArray⟩ := ext_eq (by rw [mk_list]; exact HZ.out)
      exact ⟨by rw [← hze]; rfl, hbt HT3.out.1 HB.out⟩

end Go.Proofs.YtckapcafpnlnoaaDoor
