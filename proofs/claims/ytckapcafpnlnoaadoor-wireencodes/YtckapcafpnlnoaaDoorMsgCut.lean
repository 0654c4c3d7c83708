/-
  What the document's Copy, Without and Numbers, and others, Without and Set answer: for every message of up to 1000 fields, in every world.
-/
import Derived.Test.YtckapcafpnlnoaaDoorMsgOf
import Derived.Test.YtckapcafpnlnoaaDoorPackSch
import Derived.Test.YtckapcafpnlnoaaDoorPackFld
import Derived.Test.YtckapcafpnlnoaaDoorPackBase
namespace Go.Proofs.YtckapcafpnlnoaaDoor
open Go.RowKit

/-- A message in one block, room for another in a second: what a region keeps. -/
def MCopies (w : World) (m : ByteArray) (A : Option Addr) (len cap : Nat) (u : World) : Prop := Below w.heap.size w u ∧ MBox u w.heap.size m A len cap ∧ ∃ m' X n c, MBox u (w.heap.size + 1) m' X n c
theorem MCopies.below {w : World} {m : ByteArray} {A : Option Addr} {len cap : Nat} {u u' : World} (h : MCopies w m A len cap u) (hb : Below u.heap.size u u') : MCopies w m A len cap u' := by
  obtain ⟨h1, h2, m', X, n, c, h3⟩ := h
  exact ⟨hbt h1 hb, h2.below hb, m', X, n, c, h3.below hb⟩
theorem MCopies.drew {w : World} {m : ByteArray} {A : Option Addr} {len cap : Nat} {u : World} (h : MCopies w m A len cap u) : MCopies w m A len cap u.drew := ⟨h.1.drew, h.2⟩
theorem MCopies.store {w : World} {m : ByteArray} {A : Option Addr} {len cap : Nat} {u : World} (h : MCopies w m A len cap u) (m' : ByteArray) (X : Option Addr) (n c : Nat) : MCopies w m A len cap ((u.setCell ⟨w.heap.size + 1, 0, none⟩ (.string m')).setCell ⟨w.heap.size + 1, 1, none⟩ (.slice X n c)) := by
  obtain ⟨h1, h2, _, _, _, _, h3⟩ := h
  exact ⟨below_set2 h1 (Nat.le_succ _) _ _, obj_set_other h2 (by omega) _ _, m', X, n, c, obj_set2 h3 _ _⟩
theorem mcopies_new (w : World) (m : ByteArray) (A : Option Addr) (len cap : Nat) : MCopies w m A len cap ((w.alloc (.cells #[.string m, .slice A len cap] 33)).alloc (.cells #[.string ⟨#[]⟩, .slice none 0 0] 33)) :=
  ⟨hbt (below_al _ _) (below_al _ _), (mbox_new _ _ _ _ _).below (below_al _ _), _, _, _, _, heap_al _ _ _ (by simp)⟩

set_option maxRecDepth 100000 in
set_option maxHeartbeats 3200000 in
theorem mcopy_any (m : ByteArray) (A : Option Addr) (cap : Nat) (l : List Item) (w : World) (hI : Tlvs w A l) (hn : l.length ≤ 1000) :
    Calls Tryd.prog 14 #[.agg #[.string m, .slice A l.length cap]] w fun e w' => ∃ A' cap', e = .returned (.agg #[.string m, .slice A' l.length cap']) ∧ Tlvs w' A' l ∧ Below w.heap.size w w' := by
  generalize hlen : l.length = len at *
  have HLEN := Lib.hid hlen
  clear hlen
  have HC := Lib.hid (mcopies_new w m A len cap)
  have HI := Lib.hid (hI.below HC.out.1)
  clear hI
  go_enter Tryd.func14, Tryd.ntmps14
  go_wp2_with fail
  generalize (w.alloc (.cells #[.string m, .slice A len cap] 33)).alloc (.cells #[.string ⟨#[]⟩, .slice none 0 0] 33) = U at *
  refine wp_region_noPanic ?_
  refine wp_region_held_drew (S := (MCopies w m A len cap)) (by kernel_rfl) (HC.out.drew) (fun hS => ?_)
  refine give_val (i := 0) (v := ?_) rfl (by kernel_rfl) (by kernel_rfl) (by kernel_rfl) (fun _ _ _ h => h) (by rfl) (fun u hu => ?_) hS ?_
  rotate_left
  · ((obtain ⟨_, hu2, _⟩ := hu; obtain ⟨c0, c1, _, _⟩ := obj_cells hu2; clear hu2); go_simp; try (with_reducible rfl))
  try simp only [Act.put, List.setIfInBounds_toArray, List.set_cons_zero, List.set_cons_succ]
  refine give_val (i := 1) (v := ?_) rfl (by kernel_rfl) (by kernel_rfl) (by kernel_rfl) (fun _ _ _ h => h) (by rfl) (fun u hu => ?_) hS ?_
  rotate_left
  · ((obtain ⟨_, hu2, _⟩ := hu; obtain ⟨c0, c1, _, _⟩ := obj_cells hu2; clear hu2); go_simp; try (with_reducible rfl))
  try simp only [Act.put, List.setIfInBounds_toArray, List.set_cons_zero, List.set_cons_succ]
  refine give_val (i := 3) (v := ?_) rfl (by kernel_rfl) (by kernel_rfl) (by kernel_rfl) (fun _ _ _ h => h) (by rfl) (fun u hu => ?_) hS ?_
  rotate_left
  · ((obtain ⟨_, hu2, _⟩ := hu; obtain ⟨c0, c1, _, _⟩ := obj_cells hu2; clear hu2); go_simp; try (with_reducible rfl))
  try simp only [Act.put, List.setIfInBounds_toArray, List.set_cons_zero, List.set_cons_succ]
  refine give_val (i := 4) (v := ?_) rfl (by kernel_rfl) (by kernel_rfl) (by kernel_rfl) (fun _ _ _ h => h) (by rfl) (fun u hu => ?_) hS ?_
  rotate_left
  · ((obtain ⟨_, hu2, _⟩ := hu; obtain ⟨c0, c1, _, _⟩ := obj_cells hu2; clear hu2); go_simp; try (with_reducible rfl))
  try simp only [Act.put, List.setIfInBounds_toArray, List.set_cons_zero, List.set_cons_succ]
  refine only (i := 2) rfl (by kernel_rfl) (by rfl) (fun K hK => ?_)
  go_simp
  refine hK.out _ _ (HC.out.below (below_al _ _)).drew ?_
  clear hK
  try simp only [Act.put, List.setIfInBounds_toArray, List.set_cons_zero, List.set_cons_succ]
  refine only (i := 5) rfl (by kernel_rfl) (by rfl) (fun K hK => ?_)
  refine wp_copy_vals _ _ (by rfl) _ U.heap.size U.heap.size (by rfl) (World.ownsRow_lit U #[] 0 (Nat.le_refl _) (by unfold maxLen; omega) rfl).drew (by simp) A cap len (by rfl) l HLEN.out (HI.out.below (below_al U (.cells #[] 51)).drew) (by omega) ?_
  intro A' c' w2 hT2 _ hbw
  have hb2 : Below U.heap.size U w2 := hbw U (below_al U (.cells #[] 51)).drew (Nat.le_refl _)
  have HT2 := Lib.hid hT2
  have hC2 := HC.out.below hb2
  clear hbw hT2
  refine hK.out _ _ hC2 ?_
  clear hK
  try simp only [Act.put, List.setIfInBounds_toArray, List.set_cons_zero, List.set_cons_succ]
  clear hS
  have hS := hC2
  refine give_val (i := 6) (v := ?_) rfl (by kernel_rfl) (by kernel_rfl) (by kernel_rfl) (fun _ _ _ h => h) (by rfl) (fun u hu => ?_) hS ?_
  rotate_left
  · ((obtain ⟨_, hu2, _⟩ := hu; obtain ⟨c0, c1, _, _⟩ := obj_cells hu2; clear hu2); go_simp; try (with_reducible rfl))
  try simp only [Act.put, List.setIfInBounds_toArray, List.set_cons_zero, List.set_cons_succ]
  refine only (i := 7) rfl (by kernel_rfl) (by rfl) (fun K hK => ?_)
  obtain ⟨hS1, hS2, x0, x1, x2, x3, hS3⟩ := id hC2
  obtain ⟨c0, c1, f0, f1⟩ := obj_cells hS3
  go_simp
  refine hK.out _ _ (hC2.store _ _ _ _) ?_
  clear hK
  try simp only [Act.put, List.setIfInBounds_toArray, List.set_cons_zero, List.set_cons_succ]
  refine wpAnyH_done (by kernel_rfl) (NoPanic.normal ?_) _
  have HR := Lib.hid (obj_set2 hS3 (.string m) (.slice A' len c'))
  have HB := Lib.hid (hC2.store m A' len c').1
  have HT := Lib.hid (vals_store2 HT2.out hS3 m A' len c')
  clear hS hC2 hS1 hS2 hS3 c0 c1 f0 f1 hb2
  generalize ((w2.setCell _ _).setCell _ _) = w4 at *
  go_wp2
  refine bodyPost_ret (results_cell_row rfl _ _ (w.heap.size + 1) _ _ _ _ rfl HR.out Tryd.underlying33 rfl (by kernel_rfl)) rfl ?_
  exact ⟨A', c', rfl, HT.out, HB.out⟩

set_option maxRecDepth 100000 in
set_option maxHeartbeats 3200000 in
theorem mothers_any (A : Option Addr) (cap : Nat) (l : List Item) (no : Int) (w : World) (hI : Tlvs w A l) (hn : l.length ≤ 1000) :
    Calls Tryd.prog 55 #[.slice A l.length cap, .int .i64 no] w fun e w' => ∃ A' cap', e = .returned (.slice A' (outL no l).length cap') ∧ (outL no l).length ≤ cap' ∧ Tlvs w' A' (outL no l) ∧ Below w.heap.size w w' := by
  obtain ⟨i0, hi, hz0, hz1, hz2⟩ := info_parts Tryd.infoVal
  have HKN := Lib.hid (out_part no l)
  generalize hlen : l.length = len at *
  have HLEN := Lib.hid hlen
  have HI := Lib.hid hI
  clear hlen hI
  go_enter Tryd.func55, Tryd.ntmps55
  go_wp2
  go_loopw [5, 10] (fun y i wr => ∃ k : Nat, k ≤ len ∧ i = .int .i64 (k : Int) ∧ wr.ownsRow w.heap.size 51 2 y (outL no (l.take k)).length (itemsC (outL no (l.take k))) ∧ Below w.heap.size w wr) (fun _ i _ => len - (intOf i).toNat)
  case atStart => exact ⟨0, Nat.zero_le _, rfl, World.ownsRow_nil _ _ _ _, Below.refl _ _⟩
  case round =>
    obtain ⟨k, hk, rfl, hown, hb⟩ := hrel
    have HO := Lib.hid hown
    have HB := Lib.hid hb
    have hbz := hb.size
    clear hown hb
    by_cases hlt : k < len
    · have hkl : k < l.length := by have := HLEN.out; omega
      obtain ⟨a, n, s, rfl, hx, c0, c1⟩ := (HI.out.below HB.out).at_ hkl
      have hst : outL no (l.take (k + 1)) = outL no (l.take k) ++ (if n = no then [] else [(n, s)]) := by rw [take_succ_item hkl, out_snoc, hx]
      have hkn := HKN.out k
      clear hx hkl
      by_cases hz : n = no
      · have tz : (n != no) = false := by simpa using hz
        have HST := Lib.hid (hst.trans (by rw [if_pos hz, List.append_nil] : _ = outL no (l.take k)))
        clear hst hkn hz
        go_wp2
        go_roundw
        case rel => exact ⟨k + 1, by omega, by go_num, by rw [HST.out]; exact HO.out.alloc _, hbt HB.out (below_al _ _)⟩
        case measure => simp [intOf]; omega
      · have tz : (n != no) = true := by simpa using hz
        have HST := Lib.hid (hst.trans (by rw [if_neg hz] : _ = outL no (l.take k) ++ [(n, s)]))
        clear hst hz
        generalize hkl : outL no (l.take k) = kl at *
        clear hkl
        generalize hm : kl.length = m at *
        have HMM := Lib.hid hm
        clear hm
        have HO2 := Lib.hid ((HO.out.alloc (.cells #[.int .i64 n, .string s] 51)).alloc (.cells #[.int .i64 n, .string s] 51))
        clear HO
        go_wp2_with (at_builtin; refine wpList_append_lies _ rfl _ _ _ rfl w.heap.size 51 i0 _ 2 24 Tryd.underlying31 hi hz0 hz1 hz2 rfl (by omega) _ m (itemsC kl) rfl HO2.out ⟨wr.heap.size + 1, 0, none⟩ 1 1 (itemC (n, s)) rfl rfl (World.news_of_block (cs := #[.int .i64 n, .string s]) (t := 51) (fr := (0, 0)) (heap_al _ _ _ (by simp))) (by simp [itemC, Value.oneCell']) (by omega) (by unfold maxLen; omega) (by omega) (by simp; omega) (wr.heap.size + 1 + 1) (by simp) ?_; intro g' cap' w4 hown4 hgrow4 hat4 hlt4)
        have HO4 := Lib.hid hown4
        have HB4 := Lib.hid ((hbt (hbt HB.out (below_al _ _)) (below_al _ _)).grown hgrow4 (by simp; omega) (fun q hq => (HO2.out.lt q hq).1))
        clear hown4 hgrow4 hat4 hlt4
        go_wp2
        go_roundw
        case rel => exact ⟨k + 1, by omega, by go_num, by rw [HST.out, itemsC_snoc, List.length_append, HMM.out]; exact HO4.out, HB4.out⟩
        case measure => simp [intOf]; omega
    · have he : l.take k = l := items_all (by have := HLEN.out; omega)
      have ho1 := HO.out
      rw [he] at ho1
      obtain ⟨A', cap', rfl, hc, ht⟩ := vals_own_cap ho1 rfl
      have HT := Lib.hid ht
      have HCP := Lib.hid hc
      clear ho1 he HO ht hc
      go_wp2
      go_ret
      exact ⟨A', cap', rfl, HCP.out, HT.out, HB.out⟩

set_option maxRecDepth 100000 in
set_option maxHeartbeats 3200000 in
theorem mwithout_any (m : ByteArray) (A : Option Addr) (cap : Nat) (l : List Item) (no : Int) (w : World) (hI : Tlvs w A l) (hn : l.length ≤ 1000) :
    Calls Tryd.prog 22 #[.agg #[.string m, .slice A l.length cap], .int .i64 no] w fun e w' => ∃ A' cap', e = .returned (.agg #[.string m, .slice A' (outL no l).length cap']) ∧ Tlvs w' A' (outL no l) ∧ Below w.heap.size w w' := by
  have HQ : Hid (∀ W, Tlvs W A l → Calls Tryd.prog 55 #[.slice A l.length cap, .int .i64 no] W fun e w' => ∃ v, e = .returned v ∧ ∃ A' c', v = .slice A' (outL no l).length c' ∧ Tlvs w' A' (outL no l) ∧ Below W.heap.size W w') := fun W hW => (mothers_any A cap l no W hW hn).mono fun e w' ⟨A', c', he, _, ht, hb⟩ => ⟨_, he, A', c', rfl, ht, hb⟩
  generalize hlen : l.length = len at *
  have HC := Lib.hid (mcopies_new w m A len cap)
  have HI := Lib.hid (hI.below HC.out.1)
  clear hI hlen
  generalize outL no l = r at *
  generalize r.length = rn at *
  go_enter Tryd.func22, Tryd.ntmps22
  go_wp2_with fail
  generalize (w.alloc (.cells #[.string m, .slice A len cap] 33)).alloc (.cells #[.string ⟨#[]⟩, .slice none 0 0] 33) = U at *
  refine wp_region_noPanic ?_
  refine wp_region_held_drew (S := (MCopies w m A len cap)) (by kernel_rfl) (HC.out.drew) (fun hS => ?_)
  refine give_val (i := 0) (v := ?_) rfl (by kernel_rfl) (by kernel_rfl) (by kernel_rfl) (fun _ _ _ h => h) (by rfl) (fun u hu => ?_) hS ?_
  rotate_left
  · ((obtain ⟨_, hu2, _⟩ := hu; obtain ⟨c0, c1, _, _⟩ := obj_cells hu2; clear hu2); go_simp; try (with_reducible rfl))
  try simp only [Act.put, List.setIfInBounds_toArray, List.set_cons_zero, List.set_cons_succ]
  refine give_val (i := 1) (v := ?_) rfl (by kernel_rfl) (by kernel_rfl) (by kernel_rfl) (fun _ _ _ h => h) (by rfl) (fun u hu => ?_) hS ?_
  rotate_left
  · ((obtain ⟨_, hu2, _⟩ := hu; obtain ⟨c0, c1, _, _⟩ := obj_cells hu2; clear hu2); go_simp; try (with_reducible rfl))
  try simp only [Act.put, List.setIfInBounds_toArray, List.set_cons_zero, List.set_cons_succ]
  refine give_val (i := 2) (v := ?_) rfl (by kernel_rfl) (by kernel_rfl) (by kernel_rfl) (fun _ _ _ h => h) (by rfl) (fun u hu => ?_) hS ?_
  rotate_left
  · ((obtain ⟨_, hu2, _⟩ := hu; obtain ⟨c0, c1, _, _⟩ := obj_cells hu2; clear hu2); go_simp; try (with_reducible rfl))
  try simp only [Act.put, List.setIfInBounds_toArray, List.set_cons_zero, List.set_cons_succ]
  refine give_val (i := 3) (v := ?_) rfl (by kernel_rfl) (by kernel_rfl) (by kernel_rfl) (fun _ _ _ h => h) (by rfl) (fun u hu => ?_) hS ?_
  rotate_left
  · ((obtain ⟨_, hu2, _⟩ := hu; obtain ⟨c0, c1, _, _⟩ := obj_cells hu2; clear hu2); go_simp; try (with_reducible rfl))
  try simp only [Act.put, List.setIfInBounds_toArray, List.set_cons_zero, List.set_cons_succ]
  refine give_val (i := 4) (v := ?_) rfl (by kernel_rfl) (by kernel_rfl) (by kernel_rfl) (fun _ _ _ h => h) (by rfl) (fun u hu => ?_) hS ?_
  rotate_left
  · ((obtain ⟨_, hu2, _⟩ := hu; obtain ⟨c0, c1, _, _⟩ := obj_cells hu2; clear hu2); go_simp; try (with_reducible rfl))
  try simp only [Act.put, List.setIfInBounds_toArray, List.set_cons_zero, List.set_cons_succ]
  refine only_some (i := 5) 55 #[.slice A len cap, .int .i64 no] rfl (by kernel_rfl) (by rfl) (HQ.out _ (HI.out.below (Below.refl _ _).drew)) ?_ ?_
  · (go_simp; try (with_reducible rfl))
  intro v5 w5 hT
  obtain ⟨A', c', rfl, ht, hb⟩ := hT
  have hS' := (hS.below hb)
  refine ⟨hS', ?_⟩
  clear hS
  have hS := hS'; clear hS'
  try simp only [Act.put, List.setIfInBounds_toArray, List.set_cons_zero, List.set_cons_succ]
  have HT2 := Lib.hid ht
  have hC2 := hS
  clear ht hb
  refine give_val (i := 6) (v := ?_) rfl (by kernel_rfl) (by kernel_rfl) (by kernel_rfl) (fun _ _ _ h => h) (by rfl) (fun u hu => ?_) hS ?_
  rotate_left
  · ((obtain ⟨_, hu2, _⟩ := hu; obtain ⟨c0, c1, _, _⟩ := obj_cells hu2; clear hu2); go_simp; try (with_reducible rfl))
  try simp only [Act.put, List.setIfInBounds_toArray, List.set_cons_zero, List.set_cons_succ]
  refine only (i := 7) rfl (by kernel_rfl) (by rfl) (fun K hK => ?_)
  obtain ⟨hS1, hS2, x0, x1, x2, x3, hS3⟩ := id hC2
  obtain ⟨c0, c1, f0, f1⟩ := obj_cells hS3
  go_simp
  refine hK.out _ _ (hC2.store _ _ _ _) ?_
  clear hK
  try simp only [Act.put, List.setIfInBounds_toArray, List.set_cons_zero, List.set_cons_succ]
  refine wpAnyH_done (by kernel_rfl) (NoPanic.normal ?_) _
  have HR := Lib.hid (obj_set2 hS3 (.string m) (.slice A' rn c'))
  have HB := Lib.hid (hC2.store m A' rn c').1
  have HT := Lib.hid (vals_store2 HT2.out hS3 m A' rn c')
  clear hS hC2 hS1 hS2 hS3 c0 c1 f0 f1
  generalize ((w5.setCell _ _).setCell _ _) = w4 at *
  go_wp2
  refine bodyPost_ret (results_cell_row rfl _ _ (w.heap.size + 1) _ _ _ _ rfl HR.out Tryd.underlying33 rfl (by kernel_rfl)) rfl ?_
  exact ⟨A', c', rfl, HT.out, HB.out⟩

set_option maxRecDepth 100000 in
set_option maxHeartbeats 3200000 in
theorem mset_any (m : ByteArray) (A : Option Addr) (cap : Nat) (l : List Item) (w : World) (hI : Tlvs w A l) (hn : l.length ≤ 1000) :
    Calls Tryd.prog 18 #[.agg #[.string m, .slice A l.length cap]] w fun e w' => e = .returned (setV (ofH (tagsOf l)) (ofL (tagsOf l))) ∧ Below w.heap.size w w' := by
  have HI := Lib.hid hI
  clear hI
  have HW := Lib.hid (fun (k : Nat) (n : Int) W => with_any (ofH (tagsOf (l.take k))) (ofL (tagsOf (l.take k))) n W (of_lt _).1 (of_lt _).2)
  unfold setV at HW
  generalize hlen : l.length = len at *
  have HLEN := Lib.hid hlen
  clear hlen
  go_enter Tryd.func18, Tryd.ntmps18
  go_wp2
  go_loopw [9] (fun i wr => ∃ k : Nat, k ≤ len ∧ i = .int .i64 (k : Int) ∧ wr.heap[w.heap.size + 2]? = some (setO (ofH (tagsOf (l.take k))) (ofL (tagsOf (l.take k)))) ∧ wr.heap[w.heap.size + 1]? = some (setO 0 0) ∧ Below w.heap.size w wr) (fun i _ => len - (intOf i).toNat)
  case atStart => exact ⟨0, Nat.zero_le _, rfl, heap_al _ _ _ (by simp), obj_below (heap_al _ _ _ (by simp)) (below_al _ _), hbt (hbt (below_al _ _) (below_al _ _)) (below_al _ _)⟩
  case round =>
    obtain ⟨k, hk, rfl, h1, h0, hb⟩ := hrel
    by_cases hlt : k < len
    · have hkl : k < l.length := by have := HLEN.out; omega
      obtain ⟨a, n, s, rfl, hx, c0, c1⟩ := (HI.out.below hb).at_ hkl
      have ho := of_tags hkl
      rw [hx] at ho
      dsimp only at ho
      have hw := HW.out k n
      generalize ofH (tagsOf (l.take k)) = x at *
      generalize ofL (tagsOf (l.take k)) = y at *
      generalize x ||| aH n = x' at *
      generalize y ||| aL n = y' at *
      have HO := Lib.hid ho
      have HV := Lib.hid hw
      have h1a := obj_below h1 (below_al wr (.cells #[.int .i64 n, .string s] 51))
      have H1 := Lib.hid h1a
      have H0 := Lib.hid (obj_below h0 (below_al wr (.cells #[.int .i64 n, .string s] 51)))
      have HB := Lib.hid (hbt hb (below_al wr (.cells #[.int .i64 n, .string s] 51)))
      have hsz := obj_lt h1
      obtain ⟨e0, e1, _, _⟩ := obj_cells h1a
      clear ho hw h1 h0 hb h1a hx hkl
      go_wp2_with fail
      refine (HV.out _).mono ?_
      rintro e w1 ⟨rfl, hb1⟩
      have hs1 := obj_below H1.out hb1
      have H3 := Lib.hid hs1
      have H2 := Lib.hid (obj_below H0.out hb1)
      have HB1 := Lib.hid (hbt HB.out hb1)
      obtain ⟨d0, d1, f2, f3⟩ := obj_cells hs1
      clear hs1 hb1 e0 e1 c0 c1
      go_wp2
      go_roundw
      case rel =>
        refine ⟨k + 1, by omega, by go_num, ?_, ?_, ?_⟩
        · rw [HO.out.1, HO.out.2]; exact obj_set2 H3.out _ _
        · exact obj_set_other H2.out (by omega) _ _
        · exact below_set2 HB1.out (by omega) _ _
      case measure => simp [intOf]; omega
    · have he : l.take k = l := items_all (by have := HLEN.out; omega)
      rw [he] at h1
      obtain ⟨c0, c1, _, _⟩ := obj_cells h1
      obtain ⟨c2, c3, f2, f3⟩ := obj_cells h0
      have H0 := Lib.hid h0
      have HB := Lib.hid hb
      clear h1 h0 he hb
      generalize hx : ofH (tagsOf l) = x at *
      generalize hy : ofL (tagsOf l) = y at *
      have HX := Lib.hid hx
      have HY := Lib.hid hy
      clear hx hy
      go_wp2
      refine bodyPost_ret (results_cell_row rfl _ _ (w.heap.size + 1) _ _ _ _ rfl (obj_set2 H0.out _ _) Tryd.underlying46 rfl (by kernel_rfl)) rfl ?_
      exact ⟨by rw [HX.out, HY.out]; rfl, below_set2 HB.out (by omega) _ _⟩

set_option maxRecDepth 100000 in
set_option maxHeartbeats 3200000 in
theorem mnumbers_any (m : ByteArray) (A : Option Addr) (cap : Nat) (l : List Item) (w : World) (hI : Tlvs w A l) (hn : l.length ≤ 1000) :
    Calls Tryd.prog 40 #[.agg #[.string m, .slice A l.length cap]] w fun e w' => ∃ A' cap', e = .returned (.slice A' (tagsOf l).length cap') ∧ Ints w' A' (tagsOf l) ∧ Below w.heap.size w w' := by
  obtain ⟨i0, hi, hz0, hz1, hz2⟩ := info_parts Tryd.infoX64
  have HI := Lib.hid hI
  clear hI
  rw [tags_length]
  generalize hlen : l.length = len at *
  have HLEN := Lib.hid hlen
  clear hlen
  have HO : Hid (((w.alloc (.cells #[.string m, .slice A len cap] 33)).alloc (.cells #[] 3)).ownsRow (w.alloc (.cells #[.string m, .slice A len cap] 33)).heap.size 3 1 (.slice (some ⟨(w.alloc (.cells #[.string m, .slice A len cap] 33)).heap.size, 0, none⟩) 0 0) 0 []) := World.ownsRow_lit _ #[] 0 (Nat.le_refl _) (by unfold maxLen; omega) rfl
  have hsz1 : (w.alloc (.cells #[.string m, .slice A len cap] 33)).heap.size = w.heap.size + 1 := by simp
  rw [hsz1] at HO
  go_enter Tryd.func40, Tryd.ntmps40
  go_wp2
  go_loopw [3, 4] (fun y i wr => ∃ (k cp g : Nat), k ≤ len ∧ i = .int .i64 (k : Int) ∧ y = .slice (some ⟨g, 0, none⟩) k cp ∧ wr.ownsRow (w.heap.size + 1) 3 1 (.slice (some ⟨g, 0, none⟩) k cp) k ((tagsOf (l.take k)).map zv) ∧ MBox wr w.heap.size m A len cap ∧ Below w.heap.size w wr) (fun _ i _ => len - (intOf i).toNat)
  case atStart => exact ⟨0, 0, w.heap.size + 1, Nat.zero_le _, rfl, rfl, HO.out, (mbox_new _ _ _ _ _).below (below_al _ _), hbt (below_al _ _) (below_al _ _)⟩
  case round =>
    obtain ⟨k, cp, g, hk, rfl, rfl, hown, hbox, hb⟩ := hrel
    by_cases hlt : k < len
    · have hkl : k < l.length := by have := HLEN.out; omega
      obtain ⟨a, n, s, rfl, hx, c0, c1⟩ := (HI.out.below hb).at_ hkl
      obtain ⟨b0, b1, _, _⟩ := obj_cells hbox
      have hst : tagsOf (l.take (k + 1)) = tagsOf (l.take k) ++ [n] := by rw [take_succ_item hkl, tags_snoc, hx]
      have HST := Lib.hid hst
      have HW := Lib.hid hown
      have HX := Lib.hid hbox
      have HB := Lib.hid hb
      have hbz := hb.size
      have hbx := obj_lt hbox
      clear hst hown hbox hb hx hkl HO
      go_wp2_with (at_builtin; refine wpList_append_lies _ rfl _ _ _ rfl (w.heap.size + 1) 3 i0 _ 1 8 Tryd.underlying84 hi hz0 hz1 hz2 rfl (by omega) (.slice (some ⟨g, 0, none⟩) k cp) k _ rfl (HW.out.alloc _) ⟨wr.heap.size, 0, none⟩ 1 1 [.int .i64 n] rfl rfl (World.news_of_block (cs := #[.int .i64 n]) (t := 3) (fr := (0, 0)) (heap_alloc_new wr _)) (by simp [Value.oneCell']) (by omega) (by unfold maxLen; omega) (by omega) (by simp; omega) (wr.heap.size + 1) (by simp) ?_; intro g' cap' w2 hown2 hgrow hat hlt2)
      have hbB : Below (w.heap.size + 1) wr w2 := ((Below.refl _ _).alloc (by omega) _).grown hgrow (by simp; omega) (by intro q hq; have := own_base HW.out; simp [Value.ownBlock] at hq; omega)
      have HB2 : Hid (Below w.heap.size w w2) := HB.out.trans (hbB.mono (by omega))
      have HX2 : Hid (MBox w2 w.heap.size m (some a) len cap) := (hbB.block w.heap.size (by omega)).trans HX.out
      have HW2 := Lib.hid hown2
      clear hown2 hgrow hat hlt2 hbB
      go_wp2
      go_roundw
      case rel => exact ⟨k + 1, cap', g', by omega, by go_num, rfl, by rw [HST.out, List.map_append]; exact HW2.out, HX2.out, HB2.out⟩
      case measure => simp [intOf]; omega
    · have hke : k = len := by omega
      subst hke
      have HW := Lib.hid hown
      have HB := Lib.hid hb
      obtain ⟨b0, b1, _, _⟩ := obj_cells hbox
      have HE := Lib.hid (items_all (l := l) (k := k) (by have := HLEN.out; omega))
      clear hown hbox hb HO
      go_wp2
      go_ret
      exact ⟨some ⟨g, 0, none⟩, cp, rfl, nos_own (zs := tagsOf l) (by have := HW.out; rw [HE.out] at this; exact this) (by rw [tags_length, HLEN.out]), HB.out⟩

end Go.Proofs.YtckapcafpnlnoaaDoor
