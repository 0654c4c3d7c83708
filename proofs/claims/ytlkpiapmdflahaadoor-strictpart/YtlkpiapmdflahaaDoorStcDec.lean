/-
  What the program's Decode answers: for every schema of up to 1000 specs and bytes of up to 1,000,000, in every world that holds the table of kinds.
-/
import Derived.Test.YtlkpiapmdflahaaDoorStcOf
import Derived.Test.YtlkpiapmdflahaaDoorStcHead
import Derived.Test.YtlkpiapmdflahaaDoorStcFld
import Derived.Test.YtlkpiapmdflahaaDoorPackSch
import Derived.Test.YtlkpiapmdflahaaDoorPackBmp
import Derived.Test.YtlkpiapmdflahaaDoorPackBase
namespace Go.Proofs.YtlkpiapmdflahaaDoor
open Go.RowKit

/-- A schema, room for a message and room for a fault, in the first three blocks that the call makes. -/
def DTrio (w : World) (st v : Int) (A : Option Addr) (len cap : Nat) (u : World) : Prop :=
  Below w.heap.size w u ∧ Box u w.heap.size st v A len cap ∧ MBox u (w.heap.size + 1) ⟨#[]⟩ none 0 0 ∧ u.heap[w.heap.size + 2]? = some (.cells #[.int .i64 0, .int .i64 0] 31)
theorem DTrio.below {w : World} {st v : Int} {A : Option Addr} {len cap : Nat} {u u' : World} (t : DTrio w st v A len cap u) (hb : Below u.heap.size u u') : DTrio w st v A len cap u' :=
  ⟨hbt t.1 hb, t.2.1.below hb, t.2.2.1.below hb, obj_below t.2.2.2 hb⟩
theorem dtrio_new (w : World) (st v : Int) (A : Option Addr) (len cap : Nat) : DTrio w st v A len cap (((w.alloc (.cells #[.int .i64 st, .int .i64 v, .slice A len cap] 24)).alloc (.cells #[.string ⟨#[]⟩, .slice none 0 0] 28)).alloc (.cells #[.int .i64 0, .int .i64 0] 31)) :=
  ⟨hbt (hbt (below_al _ _) (below_al _ _)) (below_al _ _), ((box_new _ _ _ _ _ _).below (below_al _ _)).below (below_al _ _), obj_below (heap_al _ _ _ (by simp)) (below_al _ _), heap_al _ _ _ (by simp)⟩
/-- A fault in a block, room for a message and a fault in two others: what a region keeps that stores both. -/
def FinS (w : World) (g : Nat) (z z' : Int) (u : World) : Prop :=
  Below w.heap.size w u ∧ u.heap[g]? = some (.cells #[.int .i64 z, .int .i64 z'] 31) ∧ (∃ a b, u.heap[w.heap.size + 1]? = some (.cells #[a, b] 28)) ∧ ∃ a b, u.heap[w.heap.size + 2]? = some (.cells #[a, b] 31)
theorem FinS.first {w : World} {g : Nat} {z z' : Int} {u : World} (h : FinS w g z z' u) (hg : w.heap.size + 2 < g) (c d : Value) : FinS w g z z' (((u.setCell ⟨w.heap.size + 1, 0, none⟩ c).setCell ⟨w.heap.size + 1, 1, none⟩ d).drew) := by
  obtain ⟨h1, h2, ⟨a, b, h4⟩, a', b', h5⟩ := h
  exact ⟨(below_set2 h1 (by omega) _ _).drew, obj_set_other h2 (by omega) _ _, ⟨_, _, obj_set2 h4 _ _⟩, _, _, obj_set_other h5 (by omega) _ _⟩
theorem FinS.second {w : World} {g : Nat} {z z' : Int} {u : World} (h : FinS w g z z' u) (hg : w.heap.size + 2 < g) (c d : Value) : FinS w g z z' (((u.setCell ⟨w.heap.size + 2, 0, none⟩ c).setCell ⟨w.heap.size + 2, 1, none⟩ d).drew) := by
  obtain ⟨h1, h2, ⟨a, b, h4⟩, a', b', h5⟩ := h
  exact ⟨(below_set2 h1 (by omega) _ _).drew, obj_set_other h2 (by omega) _ _, ⟨_, _, obj_set_other h4 (by omega) _ _⟩, _, _, obj_set2 h5 _ _⟩
theorem vals_by_msg {w : World} {A : Option Addr} {l : List Item} {p : Nat} {m : ByteArray} {X : Option Addr} {n c0 : Nat} {t : TypeId} (h : Tlvs w A l) (hg : w.heap[p]? = some (.cells #[.string m, .slice X n c0] t)) (c d : Value) : Tlvs ((w.setCell ⟨p, 0, none⟩ c).setCell ⟨p, 1, none⟩ d) A l := by
  intro i hi
  obtain ⟨a, ha, h0, h1⟩ := h i hi
  have hne : (a.add (i * 2)).block ≠ p := num_apart h0 hg
  exact ⟨a, ha, (World.cell?_of_block ((heap_setCell_other _ _ _ _ hne).trans (heap_setCell_other _ _ _ _ hne))).trans h0, (World.cell?_of_block ((heap_setCell_other _ _ _ _ hne).trans (heap_setCell_other _ _ _ _ hne))).trans h1⟩
theorem vals_by_fault {w : World} {A : Option Addr} {l : List Item} {p : Nat} {x y : Int} {t : TypeId} (h : Tlvs w A l) (hg : w.heap[p]? = some (.cells #[.int .i64 x, .int .i64 y] t)) (c d : Value) : Tlvs ((w.setCell ⟨p, 0, none⟩ c).setCell ⟨p, 1, none⟩ d) A l := by
  intro i hi
  obtain ⟨a, ha, h0, h1⟩ := h i hi
  have hne : (a.add (i * 2)).block ≠ p := by
    intro e
    generalize (a.add (i * 2)) = q at *
    obtain ⟨b, o, f⟩ := q
    dsimp only at e h1
    subst e
    rw [cell_of_row _ _ _ _ _ _ hg] at h1
    match o with
    | 0 => simp at h1
    | o + 1 => simp at h1
  exact ⟨a, ha, (World.cell?_of_block ((heap_setCell_other _ _ _ _ hne).trans (heap_setCell_other _ _ _ _ hne))).trans h0, (World.cell?_of_block ((heap_setCell_other _ _ _ _ hne).trans (heap_setCell_other _ _ _ _ hne))).trans h1⟩

set_option maxRecDepth 100000 in
set_option maxHeartbeats 3200000 in
theorem sdec_arg (st : Int) (v : Int) (A : Option Addr) (ca : Nat) (sl : List Sp) (b : ByteArray) (w : World) (hI : Spl w A sl) (hn : sl.length ≤ 1000) (h : (schN st v sl).1 ≠ 0) :
    Calls Tryd.prog 10 #[.agg #[.int .i64 st, .int .i64 v, .slice A sl.length ca], .string b] w fun e w' => DecTo (⟨#[]⟩, [], (1, -1)) w w' e := by
  have HC := Lib.hid (fun W hW => schk_any st v A ca sl W hW hn)
  have HT := Lib.hid (dtrio_new w st v A sl.length ca)
  have HI := Lib.hid (hI.below HT.out.1)
  generalize (schN st v sl).1 = z at *
  generalize (schN st v sl).2 = z' at *
  have tz : (z != 0) = true := by simpa using h
  clear hI h
  generalize sl.length = len at *
  go_enter Tryd.func10, Tryd.ntmps10
  go_wp2_with fail
  generalize ((w.alloc (.cells #[.int .i64 st, .int .i64 v, .slice A len ca] 24)).alloc (.cells #[.string ⟨#[]⟩, .slice none 0 0] 28)).alloc (.cells #[.int .i64 0, .int .i64 0] 31) = U at *
  refine (HC.out _ HI.out).mono ?_
  rintro e w1 ⟨rfl, hb1⟩
  have HT1 := Lib.hid (HT.out.below hb1)
  have HI1 := Lib.hid (HI.out.below hb1)
  clear hb1 HT HI HC
  obtain ⟨c0, c1, c2, c3⟩ := obj_cells HT1.out.2.2.1
  obtain ⟨d0, d1, d2, d3⟩ := obj_cells HT1.out.2.2.2
  go_wp2
  obtain ⟨k1, k2, k3⟩ := two_set (w := w) HT1.out.2.2.1 HT1.out.2.2.2 (by omega) (by omega) (by omega) HT1.out.1 (.string ⟨#[]⟩) (.slice none 0 0) (.int .i64 1) (.int .i64 (-1))
  refine bodyPost_ret (results_two rfl _ _ (w.heap.size + 1) (w.heap.size + 2) _ _ _ _ _ _ _ _ rfl k1 rfl k2 Tryd.underlying28 rfl (by kernel_rfl) Tryd.underlying31 rfl (by kernel_rfl)) rfl ?_
  exact ⟨none, 0, rfl, tlvs_nil _ _, k3⟩
set_option maxRecDepth 100000 in
set_option maxHeartbeats 3200000 in
theorem sdec_mti (k : Nat) (v : Int) (A : Option Addr) (ca : Nat) (sl : List Sp) (b : ByteArray) (w : World) (hI : Spl w A sl) (hn : sl.length ≤ 1000) (h : (schN (k : Int) v sl).1 = 0) (t : ByteArray) (a : Nat) (z : Int) (hM : ∀ W, Calls Tryd.prog 18 #[.agg #[.int .i64 (k : Int), .int .i64 v, .slice A sl.length ca], .string b] W fun e w' => e = .returned (.tuple #[.string t, .int .i64 (a : Int), .int .i64 z]) ∧ Below W.heap.size W w') (hz : z ≠ 0) :
    Calls Tryd.prog 10 #[.agg #[.int .i64 (k : Int), .int .i64 v, .slice A sl.length ca], .string b] w fun e w' => DecTo (⟨#[]⟩, [], (z, 0)) w w' e := by
  have HC := Lib.hid (fun W hW => schk_any (k : Int) v A ca sl W hW hn)
  have HT := Lib.hid (dtrio_new w (k : Int) v A sl.length ca)
  have HI := Lib.hid (hI.below HT.out.1)
  have HM := Lib.hid hM
  rw [h] at HC
  generalize (schN (k : Int) v sl).2 = z9 at *
  have tz : (z != 0) = true := by simpa using hz
  clear hI h hM hz
  generalize sl.length = len at *
  go_enter Tryd.func10, Tryd.ntmps10
  go_wp2_with fail
  generalize ((w.alloc (.cells #[.int .i64 (k : Int), .int .i64 v, .slice A len ca] 24)).alloc (.cells #[.string ⟨#[]⟩, .slice none 0 0] 28)).alloc (.cells #[.int .i64 0, .int .i64 0] 31) = U at *
  refine (HC.out _ HI.out).mono ?_
  rintro e w1 ⟨rfl, hb1⟩
  have HT1 := Lib.hid (HT.out.below hb1)
  have HI1 := Lib.hid (HI.out.below hb1)
  clear hb1 HT HI HC
  obtain ⟨b0, b1, b2⟩ := obj_cells3 HT1.out.2.1
  go_wp2_with fail
  refine (HM.out _).mono ?_
  rintro e w2 ⟨rfl, hb2⟩
  have HT2 := Lib.hid (HT1.out.below hb2)
  have HI2 := Lib.hid (HI1.out.below hb2)
  clear hb2 HT1 HI1 b0 b1 b2
  obtain ⟨c0, c1, c2, c3⟩ := obj_cells HT2.out.2.2.1
  obtain ⟨d0, d1, d2, d3⟩ := obj_cells HT2.out.2.2.2
  go_wp2
  obtain ⟨k1, k2, k3⟩ := two_set (w := w) HT2.out.2.2.1 HT2.out.2.2.2 (by omega) (by omega) (by omega) HT2.out.1 (.string ⟨#[]⟩) (.slice none 0 0) (.int .i64 z) (.int .i64 0)
  refine bodyPost_ret (results_two rfl _ _ (w.heap.size + 1) (w.heap.size + 2) _ _ _ _ _ _ _ _ rfl k1 rfl k2 Tryd.underlying28 rfl (by kernel_rfl) Tryd.underlying31 rfl (by kernel_rfl)) rfl ?_
  exact ⟨none, 0, rfl, tlvs_nil _ _, k3⟩
set_option maxRecDepth 100000 in
set_option maxHeartbeats 3200000 in
theorem sdec_bmp (k : Nat) (v : Int) (A : Option Addr) (ca : Nat) (sl : List Sp) (b : ByteArray) (w : World) (hI : Spl w A sl) (hn : sl.length ≤ 1000) (h : (schN (k : Int) v sl).1 = 0) (t : ByteArray) (a : Nat) (z : Int) (hM : ∀ W, Calls Tryd.prog 18 #[.agg #[.int .i64 (k : Int), .int .i64 v, .slice A sl.length ca], .string b] W fun e w' => e = .returned (.tuple #[.string t, .int .i64 (a : Int), .int .i64 z]) ∧ Below W.heap.size W w') (hm : z = 0) (h' l' q' : Nat) (ge : Int) (hG : ∀ W, Calls Tryd.prog 19 #[.int .i64 (k : Int), .string b, .int .i64 (a : Int)] W fun e w' => e = .returned (.tuple #[.agg #[.int .u64 (h' : Int), .int .u64 (l' : Int)], .int .i64 (q' : Int), .int .i64 ge]) ∧ Below W.heap.size W w') (hg : ge ≠ 0) :
    Calls Tryd.prog 10 #[.agg #[.int .i64 (k : Int), .int .i64 v, .slice A sl.length ca], .string b] w fun e w' => DecTo (t, [], (ge, 1)) w w' e := by
  subst hm
  have HC := Lib.hid (fun W hW => schk_any (k : Int) v A ca sl W hW hn)
  have HT := Lib.hid (dtrio_new w (k : Int) v A sl.length ca)
  have HI := Lib.hid (hI.below HT.out.1)
  have HM := Lib.hid hM
  have HG := Lib.hid hG
  rw [h] at HC
  generalize (schN (k : Int) v sl).2 = z9 at *
  have tz : (ge != 0) = true := by simpa using hg
  clear hI h hM hG hg
  generalize sl.length = len at *
  go_enter Tryd.func10, Tryd.ntmps10
  go_wp2_with fail
  generalize ((w.alloc (.cells #[.int .i64 (k : Int), .int .i64 v, .slice A len ca] 24)).alloc (.cells #[.string ⟨#[]⟩, .slice none 0 0] 28)).alloc (.cells #[.int .i64 0, .int .i64 0] 31) = U at *
  refine (HC.out _ HI.out).mono ?_
  rintro e w1 ⟨rfl, hb1⟩
  have HT1 := Lib.hid (HT.out.below hb1)
  have HI1 := Lib.hid (HI.out.below hb1)
  clear hb1 HT HI HC
  obtain ⟨b0, b1, b2⟩ := obj_cells3 HT1.out.2.1
  go_wp2_with fail
  refine (HM.out _).mono ?_
  rintro e w2 ⟨rfl, hb2⟩
  have HT2 := Lib.hid (HT1.out.below hb2)
  have HI2 := Lib.hid (HI1.out.below hb2)
  clear hb2 HT1 HI1 b0 b1 b2
  obtain ⟨b0, b1, b2⟩ := obj_cells3 HT2.out.2.1
  go_wp2_with fail
  refine (HG.out _).mono ?_
  rintro e w3 ⟨rfl, hb3⟩
  have HTP := Lib.hid (HT2.out.below hb3)
  obtain ⟨c0, c1, c2, c3⟩ := obj_cells HTP.out.2.2.1
  obtain ⟨d0, d1, d2, d3⟩ := obj_cells HTP.out.2.2.2
  have l1 := obj_lt HTP.out.2.2.1
  have l2 := obj_lt HTP.out.2.2.2
  clear b0 b1 b2 hb3
  go_wp2
  obtain ⟨k1, k2, k3⟩ := two_set (w := w) HTP.out.2.2.1 HTP.out.2.2.2 (by omega) (by omega) (by omega) HTP.out.1 (.string t) (.slice none 0 0) (.int .i64 ge) (.int .i64 1)
  refine bodyPost_ret (results_two rfl _ _ (w.heap.size + 1) (w.heap.size + 2) _ _ _ _ _ _ _ _ rfl (obj_below k1 (below_al _ _)) rfl (obj_below k2 (below_al _ _)) Tryd.underlying28 rfl (by kernel_rfl) Tryd.underlying31 rfl (by kernel_rfl)) rfl ?_
  exact ⟨none, 0, rfl, tlvs_nil _ _, hbt k3 (below_al _ _)⟩
set_option maxRecDepth 100000 in
set_option maxHeartbeats 12800000 in
theorem sdec_rest (k : Nat) (v : Int) (A : Option Addr) (ca : Nat) (sl : List Sp) (b : ByteArray) (w : World) (hK : Kinds w) (hI : Spl w A sl) (hn : sl.length ≤ 1000) (h : (schN (k : Int) v sl).1 = 0) (t : ByteArray) (a : Nat) (hM : ∀ W, Calls Tryd.prog 18 #[.agg #[.int .i64 (k : Int), .int .i64 v, .slice A sl.length ca], .string b] W fun e w' => e = .returned (.tuple #[.string t, .int .i64 (a : Int), .int .i64 0]) ∧ Below W.heap.size W w') (h' l' q' : Nat) (hG : ∀ W, Calls Tryd.prog 19 #[.int .i64 (k : Int), .string b, .int .i64 (a : Int)] W fun e w' => e = .returned (.tuple #[.agg #[.int .u64 (h' : Int), .int .u64 (l' : Int)], .int .i64 (q' : Int), .int .i64 0]) ∧ Below W.heap.size W w') (R : List Item × (Int × Int)) (hF : ∀ W, Kinds W → Spl W A sl → Calls Tryd.prog 20 #[.agg #[.int .i64 (k : Int), .int .i64 v, .slice A sl.length ca], .agg #[.int .u64 (h' : Int), .int .u64 (l' : Int)], .string b, .int .i64 (q' : Int)] W fun e w' => FldTo R b W w' e) :
    Calls Tryd.prog 10 #[.agg #[.int .i64 (k : Int), .int .i64 v, .slice A sl.length ca], .string b] w fun e w' => DecTo (t, R.1, R.2) w w' e := by
  have HC := Lib.hid (fun W hW => schk_any (k : Int) v A ca sl W hW hn)
  have HT := Lib.hid (dtrio_new w (k : Int) v A sl.length ca)
  have HI := Lib.hid (hI.below HT.out.1)
  have HK := Lib.hid (hK.below HT.out.1)
  have HM := Lib.hid hM
  have HG := Lib.hid hG
  have HF := Lib.hid hF
  rw [h] at HC
  generalize (schN (k : Int) v sl).2 = z9 at *
  clear hK hI h hM hG hF
  obtain ⟨Rl, Rf⟩ := R
  unfold FldTo at HF
  dsimp only at HF
  generalize sl.length = len at *
  go_enter Tryd.func10, Tryd.ntmps10
  go_wp2_with fail
  generalize ((w.alloc (.cells #[.int .i64 (k : Int), .int .i64 v, .slice A len ca] 24)).alloc (.cells #[.string ⟨#[]⟩, .slice none 0 0] 28)).alloc (.cells #[.int .i64 0, .int .i64 0] 31) = U at *
  refine (HC.out _ HI.out).mono ?_
  rintro e w1 ⟨rfl, hb1⟩
  have HT1 := Lib.hid (HT.out.below hb1)
  have HI1 := Lib.hid (HI.out.below hb1)
  have HK1 := Lib.hid (HK.out.below hb1)
  clear hb1 HT HI HC
  obtain ⟨b0, b1, b2⟩ := obj_cells3 HT1.out.2.1
  go_wp2_with fail
  refine (HM.out _).mono ?_
  rintro e w2 ⟨rfl, hb2⟩
  have HT2 := Lib.hid (HT1.out.below hb2)
  have HI2 := Lib.hid (HI1.out.below hb2)
  have HK2 := Lib.hid (HK1.out.below hb2)
  clear hb2 HT1 HI1 b0 b1 b2
  obtain ⟨b0, b1, b2⟩ := obj_cells3 HT2.out.2.1
  go_wp2_with fail
  refine (HG.out _).mono ?_
  rintro e w3 ⟨rfl, hb3⟩
  have hal := hbt hb3 (below_al w3 (.cells #[.int .u64 (h' : Int), .int .u64 (l' : Int)] 52))
  have HT3 := Lib.hid (HT2.out.below hal)
  have HI3 := Lib.hid (HI2.out.below hal)
  have HK3 := Lib.hid (HK2.out.below hal)
  clear b0 b1 b2
  obtain ⟨b0, b1, b2⟩ := obj_cells3 (HT2.out.below hb3).2.1
  have l1 := obj_lt (HT2.out.below hb3).2.1
  clear hal hb3 HT2 HI2 HK2
  go_wp2_with fail
  generalize w3.alloc (.cells #[.int .u64 (h' : Int), .int .u64 (l' : Int)] 52) = W3 at *
  clear b0 b1 b2 l1
  refine (HF.out _ HK3.out HI3.out).mono ?_
  rintro e w4 ⟨A4, c4, q, f, f', rfl, ht4, hb4, hf4⟩
  rcases hf4 with ⟨hf, he⟩ | ⟨rfl, rfl, he⟩
  · have HE : Hid ((f, f') = Rf) := he
    have tf : (f == 0) = false := by simpa using hf
    clear he hf
    have HT4 := Lib.hid ((HT3.out.below hb4).below (below_al w4 (.cells #[.int .i64 f, .int .i64 f'] 31)))
    have HL4 := Lib.hid (ht4.below (below_al w4 (.cells #[.int .i64 f, .int .i64 f'] 31)))
    have HF4 : Hid ((w4.alloc (.cells #[.int .i64 f, .int .i64 f'] 31)).heap[w4.heap.size]? = some (.cells #[.int .i64 f, .int .i64 f'] 31)) := heap_alloc_new _ _
    have HNE : Hid (w.heap.size + 2 < w4.heap.size) := obj_lt (HT3.out.below hb4).2.2.2
    clear hb4 ht4 HT3
    go_wp2_with fail
    generalize w4.alloc (.cells #[.int .i64 f, .int .i64 f'] 31) = W5 at *
    generalize w4.heap.size = g4 at *
    generalize hrl : Rl.length = rn at *
    have HRL := Lib.hid hrl
    clear hrl
    refine wp_region_noPanic ?_
    refine wp_region_held_drew (S := (FinS w g4 f f')) (by kernel_rfl) ((show FinS w g4 f f' W5.drew from ⟨HT4.out.1.drew, HF4.out, ⟨_, _, HT4.out.2.2.1⟩, _, _, HT4.out.2.2.2⟩)) (fun hS => ?_)
    refine give_val (i := 0) (v := ?_) rfl (by kernel_rfl) (by kernel_rfl) (by kernel_rfl) (fun _ _ _ h => h) (by rfl) (fun u hu => ?_) hS ?_
    rotate_left
    · ((obtain ⟨_, hu2, _⟩ := hu; obtain ⟨e0, e1, _, _⟩ := obj_cells hu2; clear hu2); go_simp; try (with_reducible rfl))
    try simp only [Act.put, List.setIfInBounds_toArray, List.set_cons_zero, List.set_cons_succ]
    refine give_val (i := 1) (v := ?_) rfl (by kernel_rfl) (by kernel_rfl) (by kernel_rfl) (fun _ _ _ h => h) (by rfl) (fun u hu => ?_) hS ?_
    rotate_left
    · ((obtain ⟨_, hu2, _⟩ := hu; obtain ⟨e0, e1, _, _⟩ := obj_cells hu2; clear hu2); go_simp; try (with_reducible rfl))
    try simp only [Act.put, List.setIfInBounds_toArray, List.set_cons_zero, List.set_cons_succ]
    refine give_val (i := 2) (v := ?_) rfl (by kernel_rfl) (by kernel_rfl) (by kernel_rfl) (fun _ _ _ h => h) (by rfl) (fun u hu => ?_) hS ?_
    rotate_left
    · ((obtain ⟨_, hu2, _⟩ := hu; obtain ⟨e0, e1, _, _⟩ := obj_cells hu2; clear hu2); go_simp; try (with_reducible rfl))
    try simp only [Act.put, List.setIfInBounds_toArray, List.set_cons_zero, List.set_cons_succ]
    refine give_val (i := 3) (v := ?_) rfl (by kernel_rfl) (by kernel_rfl) (by kernel_rfl) (fun _ _ _ h => h) (by rfl) (fun u hu => ?_) hS ?_
    rotate_left
    · ((obtain ⟨_, hu2, _⟩ := hu; obtain ⟨e0, e1, _, _⟩ := obj_cells hu2; clear hu2); go_simp; try (with_reducible rfl))
    try simp only [Act.put, List.setIfInBounds_toArray, List.set_cons_zero, List.set_cons_succ]
    obtain ⟨c0, c1, c2, c3⟩ := obj_cells HT4.out.2.2.1
    have f1 := obj_set2 HT4.out.2.2.1 (.string t) (.slice A4 rn c4)
    have f2 := obj_set_other HT4.out.2.2.2 (show w.heap.size + 2 ≠ w.heap.size + 1 by omega) (.string t) (.slice A4 rn c4)
    have f3 := below_set2 (p := w.heap.size + 1) HT4.out.1 (by omega) (.string t) (.slice A4 rn c4)
    have f4 := vals_by_msg HL4.out HT4.out.2.2.1 (.string t) (.slice A4 rn c4)
    have f5 := FinS.first (show FinS w g4 f f' W5 from ⟨HT4.out.1, HF4.out, ⟨_, _, HT4.out.2.2.1⟩, _, _, HT4.out.2.2.2⟩) HNE.out (.string t) (.slice A4 rn c4)
    refine only (i := 4) rfl (by kernel_rfl) (by rfl) (fun K hK => ?_)
    go_simp
    refine hK.out _ _ f5 ?_
    clear hK
    try simp only [Act.put, List.setIfInBounds_toArray, List.set_cons_zero, List.set_cons_succ]
    clear c0 c1 c2 c3
    generalize (W5.setCell ⟨w.heap.size + 1, 0, none⟩ (.string t)).setCell ⟨w.heap.size + 1, 1, none⟩ (.slice A4 rn c4) = u7 at *
    obtain ⟨c0, c1, c2, c3⟩ := obj_cells f2
    have K1 := Lib.hid (obj_set_other f1 (show w.heap.size + 1 ≠ w.heap.size + 2 by omega) (.int .i64 f) (.int .i64 f'))
    have K2 := Lib.hid (obj_set2 f2 (.int .i64 f) (.int .i64 f'))
    have K3 := Lib.hid (below_set2 (p := w.heap.size + 2) f3 (by omega) (.int .i64 f) (.int .i64 f'))
    have K4 := Lib.hid (vals_by_fault f4 f2 (.int .i64 f) (.int .i64 f'))
    have f6 := FinS.second (show FinS w g4 f f' u7 from ⟨f3, f5.2⟩) HNE.out (.int .i64 f) (.int .i64 f')
    refine only (i := 5) rfl (by kernel_rfl) (by rfl) (fun K hK => ?_)
    go_simp
    refine hK.out _ _ f6 ?_
    clear hK
    try simp only [Act.put, List.setIfInBounds_toArray, List.set_cons_zero, List.set_cons_succ]
    refine wpAnyH_done (by kernel_rfl) (NoPanic.normal ?_) _
    clear c0 c1 c2 c3 f1 f2 f3 f4 f5 f6
    generalize (u7.setCell ⟨w.heap.size + 2, 0, none⟩ (.int .i64 f)).setCell ⟨w.heap.size + 2, 1, none⟩ (.int .i64 f') = u8 at *
    go_wp2
    refine bodyPost_ret (results_two rfl _ _ (w.heap.size + 1) (w.heap.size + 2) _ _ _ _ _ _ _ _ rfl K1.out rfl K2.out Tryd.underlying28 rfl (by kernel_rfl) Tryd.underlying31 rfl (by kernel_rfl)) rfl ?_
    refine ⟨A4, c4, ?_, K4.out, K3.out.drew⟩
    show _ = Ending.returned (.tuple #[.agg #[.string t, .slice A4 Rl.length c4], .agg #[.int .i64 Rf.1, .int .i64 Rf.2]])
    rw [← HE.out, HRL.out]
  · by_cases hq : q < b.size
    · have HE : Hid (((12 : Int), (129 : Int)) = Rf) := by show _ = _; rw [if_pos hq] at he; exact he
      clear he
      have HT4 := Lib.hid ((HT3.out.below hb4).below (below_al w4 (.cells #[.int .i64 12, .int .i64 129] 31)))
      have HL4 := Lib.hid (ht4.below (below_al w4 (.cells #[.int .i64 12, .int .i64 129] 31)))
      have HF4 : Hid ((w4.alloc (.cells #[.int .i64 12, .int .i64 129] 31)).heap[w4.heap.size]? = some (.cells #[.int .i64 12, .int .i64 129] 31)) := heap_alloc_new _ _
      have HNE : Hid (w.heap.size + 2 < w4.heap.size) := obj_lt (HT3.out.below hb4).2.2.2
      clear hb4 ht4 HT3
      go_wp2_with fail
      generalize w4.alloc (.cells #[.int .i64 12, .int .i64 129] 31) = W5 at *
      generalize w4.heap.size = g4 at *
      generalize hrl : Rl.length = rn at *
      have HRL := Lib.hid hrl
      clear hrl
      refine wp_region_noPanic ?_
      refine wp_region_held_drew (S := (FinS w g4 12 129)) (by kernel_rfl) ((show FinS w g4 12 129 W5.drew from ⟨HT4.out.1.drew, HF4.out, ⟨_, _, HT4.out.2.2.1⟩, _, _, HT4.out.2.2.2⟩)) (fun hS => ?_)
      refine give_val (i := 0) (v := ?_) rfl (by kernel_rfl) (by kernel_rfl) (by kernel_rfl) (fun _ _ _ h => h) (by rfl) (fun u hu => ?_) hS ?_
      rotate_left
      · ((obtain ⟨_, hu2, _⟩ := hu; obtain ⟨e0, e1, _, _⟩ := obj_cells hu2; clear hu2); go_simp; try (with_reducible rfl))
      try simp only [Act.put, List.setIfInBounds_toArray, List.set_cons_zero, List.set_cons_succ]
      refine give_val (i := 1) (v := ?_) rfl (by kernel_rfl) (by kernel_rfl) (by kernel_rfl) (fun _ _ _ h => h) (by rfl) (fun u hu => ?_) hS ?_
      rotate_left
      · ((obtain ⟨_, hu2, _⟩ := hu; obtain ⟨e0, e1, _, _⟩ := obj_cells hu2; clear hu2); go_simp; try (with_reducible rfl))
      try simp only [Act.put, List.setIfInBounds_toArray, List.set_cons_zero, List.set_cons_succ]
      refine give_val (i := 2) (v := ?_) rfl (by kernel_rfl) (by kernel_rfl) (by kernel_rfl) (fun _ _ _ h => h) (by rfl) (fun u hu => ?_) hS ?_
      rotate_left
      · ((obtain ⟨_, hu2, _⟩ := hu; obtain ⟨e0, e1, _, _⟩ := obj_cells hu2; clear hu2); go_simp; try (with_reducible rfl))
      try simp only [Act.put, List.setIfInBounds_toArray, List.set_cons_zero, List.set_cons_succ]
      refine give_val (i := 3) (v := ?_) rfl (by kernel_rfl) (by kernel_rfl) (by kernel_rfl) (fun _ _ _ h => h) (by rfl) (fun u hu => ?_) hS ?_
      rotate_left
      · ((obtain ⟨_, hu2, _⟩ := hu; obtain ⟨e0, e1, _, _⟩ := obj_cells hu2; clear hu2); go_simp; try (with_reducible rfl))
      try simp only [Act.put, List.setIfInBounds_toArray, List.set_cons_zero, List.set_cons_succ]
      obtain ⟨c0, c1, c2, c3⟩ := obj_cells HT4.out.2.2.1
      have f1 := obj_set2 HT4.out.2.2.1 (.string t) (.slice A4 rn c4)
      have f2 := obj_set_other HT4.out.2.2.2 (show w.heap.size + 2 ≠ w.heap.size + 1 by omega) (.string t) (.slice A4 rn c4)
      have f3 := below_set2 (p := w.heap.size + 1) HT4.out.1 (by omega) (.string t) (.slice A4 rn c4)
      have f4 := vals_by_msg HL4.out HT4.out.2.2.1 (.string t) (.slice A4 rn c4)
      have f5 := FinS.first (show FinS w g4 12 129 W5 from ⟨HT4.out.1, HF4.out, ⟨_, _, HT4.out.2.2.1⟩, _, _, HT4.out.2.2.2⟩) HNE.out (.string t) (.slice A4 rn c4)
      refine only (i := 4) rfl (by kernel_rfl) (by rfl) (fun K hK => ?_)
      go_simp
      refine hK.out _ _ f5 ?_
      clear hK
      try simp only [Act.put, List.setIfInBounds_toArray, List.set_cons_zero, List.set_cons_succ]
      clear c0 c1 c2 c3
      generalize (W5.setCell ⟨w.heap.size + 1, 0, none⟩ (.string t)).setCell ⟨w.heap.size + 1, 1, none⟩ (.slice A4 rn c4) = u7 at *
      obtain ⟨c0, c1, c2, c3⟩ := obj_cells f2
      have K1 := Lib.hid (obj_set_other f1 (show w.heap.size + 1 ≠ w.heap.size + 2 by omega) (.int .i64 12) (.int .i64 129))
      have K2 := Lib.hid (obj_set2 f2 (.int .i64 12) (.int .i64 129))
      have K3 := Lib.hid (below_set2 (p := w.heap.size + 2) f3 (by omega) (.int .i64 12) (.int .i64 129))
      have K4 := Lib.hid (vals_by_fault f4 f2 (.int .i64 12) (.int .i64 129))
      have f6 := FinS.second (show FinS w g4 12 129 u7 from ⟨f3, f5.2⟩) HNE.out (.int .i64 12) (.int .i64 129)
      refine only (i := 5) rfl (by kernel_rfl) (by rfl) (fun K hK => ?_)
      go_simp
      refine hK.out _ _ f6 ?_
      clear hK
      try simp only [Act.put, List.setIfInBounds_toArray, List.set_cons_zero, List.set_cons_succ]
      refine wpAnyH_done (by kernel_rfl) (NoPanic.normal ?_) _
      clear c0 c1 c2 c3 f1 f2 f3 f4 f5 f6
      generalize (u7.setCell ⟨w.heap.size + 2, 0, none⟩ (.int .i64 12)).setCell ⟨w.heap.size + 2, 1, none⟩ (.int .i64 129) = u8 at *
      go_wp2
      refine bodyPost_ret (results_two rfl _ _ (w.heap.size + 1) (w.heap.size + 2) _ _ _ _ _ _ _ _ rfl K1.out rfl K2.out Tryd.underlying28 rfl (by kernel_rfl) Tryd.underlying31 rfl (by kernel_rfl)) rfl ?_
      refine ⟨A4, c4, ?_, K4.out, K3.out.drew⟩
      show _ = Ending.returned (.tuple #[.agg #[.string t, .slice A4 Rl.length c4], .agg #[.int .i64 Rf.1, .int .i64 Rf.2]])
      rw [← HE.out, HRL.out]
    · have HE : Hid (((0 : Int), (0 : Int)) = Rf) := by show _ = _; rw [if_neg hq] at he; exact he
      clear he
      have HT4 := Lib.hid ((HT3.out.below hb4).below (below_al w4 (.cells #[.int .i64 0, .int .i64 0] 31)))
      have HL4 := Lib.hid (ht4.below (below_al w4 (.cells #[.int .i64 0, .int .i64 0] 31)))
      have HF4 : Hid ((w4.alloc (.cells #[.int .i64 0, .int .i64 0] 31)).heap[w4.heap.size]? = some (.cells #[.int .i64 0, .int .i64 0] 31)) := heap_alloc_new _ _
      have HNE : Hid (w.heap.size + 2 < w4.heap.size) := obj_lt (HT3.out.below hb4).2.2.2
      clear hb4 ht4 HT3
      go_wp2_with fail
      generalize w4.alloc (.cells #[.int .i64 0, .int .i64 0] 31) = W5 at *
      generalize w4.heap.size = g4 at *
      generalize hrl : Rl.length = rn at *
      have HRL := Lib.hid hrl
      clear hrl
      refine wp_region_noPanic ?_
      refine wp_region_held_drew (S := (FinS w g4 0 0)) (by kernel_rfl) ((show FinS w g4 0 0 W5.drew from ⟨HT4.out.1.drew, HF4.out, ⟨_, _, HT4.out.2.2.1⟩, _, _, HT4.out.2.2.2⟩)) (fun hS => ?_)
      refine give_val (i := 0) (v := ?_) rfl (by kernel_rfl) (by kernel_rfl) (by kernel_rfl) (fun _ _ _ h => h) (by rfl) (fun u hu => ?_) hS ?_
      rotate_left
      · ((obtain ⟨_, hu2, _⟩ := hu; obtain ⟨e0, e1, _, _⟩ := obj_cells hu2; clear hu2); go_simp; try (with_reducible rfl))
      try simp only [Act.put, List.setIfInBounds_toArray, List.set_cons_zero, List.set_cons_succ]
      refine give_val (i := 1) (v := ?_) rfl (by kernel_rfl) (by kernel_rfl) (by kernel_rfl) (fun _ _ _ h => h) (by rfl) (fun u hu => ?_) hS ?_
      rotate_left
      · ((obtain ⟨_, hu2, _⟩ := hu; obtain ⟨e0, e1, _, _⟩ := obj_cells hu2; clear hu2); go_simp; try (with_reducible rfl))
      try simp only [Act.put, List.setIfInBounds_toArray, List.set_cons_zero, List.set_cons_succ]
      refine give_val (i := 2) (v := ?_) rfl (by kernel_rfl) (by kernel_rfl) (by kernel_rfl) (fun _ _ _ h => h) (by rfl) (fun u hu => ?_) hS ?_
      rotate_left
      · ((obtain ⟨_, hu2, _⟩ := hu; obtain ⟨e0, e1, _, _⟩ := obj_cells hu2; clear hu2); go_simp; try (with_reducible rfl))
      try simp only [Act.put, List.setIfInBounds_toArray, List.set_cons_zero, List.set_cons_succ]
      refine give_val (i := 3) (v := ?_) rfl (by kernel_rfl) (by kernel_rfl) (by kernel_rfl) (fun _ _ _ h => h) (by rfl) (fun u hu => ?_) hS ?_
      rotate_left
      · ((obtain ⟨_, hu2, _⟩ := hu; obtain ⟨e0, e1, _, _⟩ := obj_cells hu2; clear hu2); go_simp; try (with_reducible rfl))
      try simp only [Act.put, List.setIfInBounds_toArray, List.set_cons_zero, List.set_cons_succ]
      obtain ⟨c0, c1, c2, c3⟩ := obj_cells HT4.out.2.2.1
      have f1 := obj_set2 HT4.out.2.2.1 (.string t) (.slice A4 rn c4)
      have f2 := obj_set_other HT4.out.2.2.2 (show w.heap.size + 2 ≠ w.heap.size + 1 by omega) (.string t) (.slice A4 rn c4)
      have f3 := below_set2 (p := w.heap.size + 1) HT4.out.1 (by omega) (.string t) (.slice A4 rn c4)
      have f4 := vals_by_msg HL4.out HT4.out.2.2.1 (.string t) (.slice A4 rn c4)
      have f5 := FinS.first (show FinS w g4 0 0 W5 from ⟨HT4.out.1, HF4.out, ⟨_, _, HT4.out.2.2.1⟩, _, _, HT4.out.2.2.2⟩) HNE.out (.string t) (.slice A4 rn c4)
      refine only (i := 4) rfl (by kernel_rfl) (by rfl) (fun K hK => ?_)
      go_simp
      refine hK.out _ _ f5 ?_
      clear hK
      try simp only [Act.put, List.setIfInBounds_toArray, List.set_cons_zero, List.set_cons_succ]
      clear c0 c1 c2 c3
      generalize (W5.setCell ⟨w.heap.size + 1, 0, none⟩ (.string t)).setCell ⟨w.heap.size + 1, 1, none⟩ (.slice A4 rn c4) = u7 at *
      obtain ⟨c0, c1, c2, c3⟩ := obj_cells f2
      have K1 := Lib.hid (obj_set_other f1 (show w.heap.size + 1 ≠ w.heap.size + 2 by omega) (.int .i64 0) (.int .i64 0))
      have K2 := Lib.hid (obj_set2 f2 (.int .i64 0) (.int .i64 0))
      have K3 := Lib.hid (below_set2 (p := w.heap.size + 2) f3 (by omega) (.int .i64 0) (.int .i64 0))
      have K4 := Lib.hid (vals_by_fault f4 f2 (.int .i64 0) (.int .i64 0))
      have f6 := FinS.second (show FinS w g4 0 0 u7 from ⟨f3, f5.2⟩) HNE.out (.int .i64 0) (.int .i64 0)
      refine only (i := 5) rfl (by kernel_rfl) (by rfl) (fun K hK => ?_)
      go_simp
      refine hK.out _ _ f6 ?_
      clear hK
      try simp only [Act.put, List.setIfInBounds_toArray, List.set_cons_zero, List.set_cons_succ]
      refine wpAnyH_done (by kernel_rfl) (NoPanic.normal ?_) _
      clear c0 c1 c2 c3 f1 f2 f3 f4 f5 f6
      generalize (u7.setCell ⟨w.heap.size + 2, 0, none⟩ (.int .i64 0)).setCell ⟨w.heap.size + 2, 1, none⟩ (.int .i64 0) = u8 at *
      go_wp2
      refine bodyPost_ret (results_two rfl _ _ (w.heap.size + 1) (w.heap.size + 2) _ _ _ _ _ _ _ _ rfl K1.out rfl K2.out Tryd.underlying28 rfl (by kernel_rfl) Tryd.underlying31 rfl (by kernel_rfl)) rfl ?_
      refine ⟨A4, c4, ?_, K4.out, K3.out.drew⟩
      show _ = Ending.returned (.tuple #[.agg #[.string t, .slice A4 Rl.length c4], .agg #[.int .i64 Rf.1, .int .i64 Rf.2]])
      rw [← HE.out, HRL.out]

theorem bmp_bound {st : Nat} {s : ByteArray} {p : Nat} (hp : p ≤ s.size) (h : (bmpN st s p).err = 0) : (bmpN st s p).high < M64 ∧ (bmpN st s p).low < M64 ∧ (bmpN st s p).next ≤ s.size := by
  obtain ⟨s1, s2, s3, s4⟩ := bmpN_shift st s p hp
  have s5 := s4 h
  rw [s1] at h
  have b4 := bmpput_N h
  have b5 := b4.2.1
  rw [mk_size, List.length_drop, list_size] at b5
  exact ⟨by rw [s2]; exact b4.1.1, by rw [s3]; exact b4.1.2.1, by omega⟩
theorem mtiR_cases (k : Nat) (v : Int) (b : ByteArray) : (b.size < tsz k ∧ mtiR k v b = (⟨#[]⟩, 0, 2)) ∨ (tsz k ≤ b.size ∧ mtiV (tgt k b) v = false ∧ mtiR k v b = (⟨#[]⟩, 0, 7)) ∨ (tsz k ≤ b.size ∧ mtiV (tgt k b) v = true ∧ mtiR k v b = (tgt k b, tsz k, 0)) := by
  unfold mtiR
  by_cases h : b.size < tsz k
  · exact .inl ⟨h, by rw [if_pos h]⟩
  · cases hm : mtiV (tgt k b) v
    · exact .inr (.inl ⟨by omega, rfl, by rw [if_neg h, if_pos rfl]⟩)
    · exact .inr (.inr ⟨by omega, rfl, by rw [if_neg h, if_neg (by simp)]⟩)
theorem sdec_any (st v : Int) (A : Option Addr) (ca : Nat) (sl : List Sp) (b : ByteArray) (w : World) (hK : Kinds w) (hI : Spl w A sl) (hn : sl.length ≤ 1000) (hb : b.size ≤ 1000000) :
    Calls Tryd.prog 10 #[.agg #[.int .i64 st, .int .i64 v, .slice A sl.length ca], .string b] w fun e w' => DecTo (decN st v sl b) w w' e := by
  by_cases h : (schN st v sl).1 = 0
  · obtain ⟨k, rfl, hk⟩ : ∃ k : Nat, st = (k : Int) ∧ (k = 1 ∨ k = 2) := by
      by_cases g : st ≠ 1 ∧ st ≠ 2
      · rw [schN_style g] at h; exact absurd h (by decide)
      · exact ⟨st.toNat, by omega, by omega⟩
    have hM := fun W => rmti_any k v A sl.length ca b W hk
    rcases mtiR_cases k v b with ⟨h1, h2⟩ | ⟨h1, h2, h3⟩ | ⟨h1, h2, h3⟩
    · rw [h2] at hM
      rw [decN_short h h1]
      exact sdec_mti k v A ca sl b w hI hn h _ _ _ hM (by decide)
    · rw [h3] at hM
      rw [decN_mti h h1 h2]
      exact sdec_mti k v A ca sl b w hI hn h _ _ _ hM (by decide)
    · rw [h3] at hM
      have hG := fun W => bmpget_any k b (tsz k) W hk hb h1
      by_cases hx : (bmpN k b (tsz k)).err = 0
      · obtain ⟨c1, c2, c3⟩ := bmp_bound h1 hx
        rw [decN_ok h h1 h2 hx]
        rw [hx] at hG
        exact sdec_rest k v A ca sl b w hK hI hn h _ _ hM _ _ _ hG _ fun W g1 g2 => sfld_any k v A ca sl _ _ b _ W g1 g2 hn hb hk h c1 c2 c3
      · rw [decN_bmp h h1 h2 hx]
        exact sdec_bmp k v A ca sl b w hI hn h _ _ _ hM rfl _ _ _ _ hG (by omega)
  · rw [decN_arg h]
    exact sdec_arg st v A ca sl b w hI hn h

end Go.Proofs.YtlkpiapmdflahaaDoor
