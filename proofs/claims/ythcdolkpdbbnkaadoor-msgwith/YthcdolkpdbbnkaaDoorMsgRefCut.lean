/-
  What the document's Without and With answer: for every message of up to 1000 fields, in every world.
-/
import Derived.Test.YthcdolkpdbbnkaaDoorMsgOf
import Derived.Test.YthcdolkpdbbnkaaDoorPackBase
import Derived.Deep.DeepCutAuto
namespace Go.Proofs.YthcdolkpdbbnkaaDoor
open Go.RowKit

/-- Of the elder blocks none but g has changed. -/
def KeepX (U : World) (g : Nat) (u : World) : Prop := U.heap.size ≤ u.heap.size ∧ ∀ b, b < U.heap.size → b ≠ g → u.heap[b]? = U.heap[b]?
theorem KeepX.step {U u u' : World} {g : Nat} (h : KeepX U g u) (hb : Below U.heap.size u u') : KeepX U g u' := ⟨Nat.le_trans h.1 hb.size, fun b h1 h2 => (hb.block b h1).trans (h.2 b h1 h2)⟩
theorem KeepX.obj {U u : World} {g b : Nat} {O : Obj} (h : KeepX U g u) (ho : U.heap[b]? = some O) (hne : b ≠ g) : u.heap[b]? = some O := (h.2 b (obj_lt ho) hne).trans ho
theorem KeepX.set {U u : World} {g : Nat} (h : KeepX U g u) (i : Nat) (x : Value) : KeepX U g (u.setCell ⟨g, i, none⟩ x) :=
  ⟨Nat.le_trans h.1 (by simp), fun b h1 h2 => (heap_setCell_other _ _ _ _ h2).trans (h.2 b h1 h2)⟩
theorem KeepX.vals {U u : World} {g : Nat} {A : Option Addr} {l : List Item} {m : ByteArray} {X : Option Addr} {n c : Nat} {t : TypeId} (h : KeepX U g u) (ht : Tlvs U A l) (hg : U.heap[g]? = some (.cells #[.string m, .slice X n c] t)) : Tlvs u A l := by
  intro i hi
  have hap := vals_apart ht (by omega) hg
  obtain ⟨a, ha, h0, h1⟩ := ht i hi
  have hab : (a.add (i * 2)).block = a.block := by unfold Addr.add; split <;> rfl
  have hlt : a.block < U.heap.size := by rw [← hab]; exact block_lt_of_cell h0
  have hc : ∀ q : Addr, q.block = a.block → u.cell? q = U.cell? q := fun q hq => World.cell?_of_block (by rw [hq]; exact h.2 _ hlt (hap a ha))
  exact ⟨a, ha, (hc _ hab).trans h0, (hc ⟨_, (a.add (i * 2)).off + 1, none⟩ hab).trans h1⟩
/-- What the loops keep: the list so far, in the wanted message's block and a row of the call's own. -/
def MWants (w U : World) (g : Nat) (m : ByteArray) (ks : List Item) (u : World) : Prop :=
  ∃ (Y : Option Addr) (cp : Nat), MBox u g m Y ks.length cp ∧ u.ownsRow U.heap.size 50 2 (.slice Y ks.length cp) ks.length (itemsC ks) ∧ KeepX U g u ∧ Below w.heap.size w u
theorem mwants_new {w U : World} {g : Nat} {m : ByteArray} (hg : MBox U g m none 0 0) (hb : Below w.heap.size w U) : MWants w U g m [] U :=
  ⟨none, 0, hg, World.ownsRow_nil _ _ _ _, ⟨Nat.le_refl _, fun _ _ _ => rfl⟩, hb⟩
theorem mwants_put {w U : World} {g : Nat} {m : ByteArray} {ks : List Item} {n : Int} {s : ByteArray} {g' cap' M : Nat} {u : World} {Y : Option Addr} {cp : Nat} (hg : g < U.heap.size) (hw : w.heap.size ≤ g) (hM : ks.length = M) (hx : MBox u g m Y M cp)
    (ho : u.ownsRow U.heap.size 50 2 (.slice (some ⟨g', 0, none⟩) (M + 1) cap') (M + 1) (itemsC ks ++ itemC (n, s))) (hk : KeepX U g u) (hb : Below w.heap.size w u) :
    MWants w U g m (ks ++ [(n, s)]) (u.setCell ⟨g, 1, none⟩ (.slice (some ⟨g', 0, none⟩) (M + 1) cap')) := by
  refine ⟨some ⟨g', 0, none⟩, cap', ?_, ?_, hk.set _ _, hb.setCell (p := ⟨g, 1, none⟩) hw _⟩
  · rw [List.length_append, hM]; exact heap_setCell_same _ g 1 _ _ _ hx
  · rw [itemsC_snoc, List.length_append, hM]; exact owns_set1 ho hg _ _

set_option maxRecDepth 100000 in
set_option maxHeartbeats 6400000 in
theorem mrwithout_any (m : ByteArray) (A : Option Addr) (cap : Nat) (l : List Item) (no : Int) (w : World) (hI : Tlvs w A l) (hn : l.length ≤ 1000) :
    Calls Tryd.prog 24 #[.agg #[.string m, .slice A l.length cap], .int .i64 no] w fun e w' => ∃ A' cap', e = .returned (.agg #[.string m, .slice A' (outL no l).length cap']) ∧ Tlvs w' A' (outL no l) ∧ Below w.heap.size w w' := by
  obtain ⟨i0, hi, hz0, hz1, hz2⟩ := info_parts Tryd.infoVal
  have HKN := Lib.hid (out_part no l)
  generalize hlen : l.length = len at *
  have HLEN := Lib.hid hlen
  have HBU := Lib.hid (hbt (hbt (below_al w (.cells #[.string m, .slice A len cap] 27)) (below_al _ (.cells #[.string ⟨#[]⟩, .slice none 0 0] 27))) (below_al _ (.cells #[.string m, .slice none 0 0] 27)))
  have HXU := Lib.hid (((mbox_new w m A len cap).below (below_al _ (.cells #[.string ⟨#[]⟩, .slice none 0 0] 27))).below (below_al _ (.cells #[.string m, .slice none 0 0] 27)))
  have HRU : Hid (MBox (((w.alloc (.cells #[.string m, .slice A len cap] 27)).alloc (.cells #[.string ⟨#[]⟩, .slice none 0 0] 27)).alloc (.cells #[.string m, .slice none 0 0] 27)) (w.heap.size + 1) ⟨#[]⟩ none 0 0) := obj_below (heap_al _ _ _ (by simp)) (below_al _ _)
  have HGO : Hid (MBox (((w.alloc (.cells #[.string m, .slice A len cap] 27)).alloc (.cells #[.string ⟨#[]⟩, .slice none 0 0] 27)).alloc (.cells #[.string m, .slice none 0 0] 27)) (w.heap.size + 2) m none 0 0) := heap_al _ _ _ (by simp)
  have HTU := Lib.hid (hI.below HBU.out)
  have HWU : Hid (w.heap.size ≤ (((w.alloc (.cells #[.string m, .slice A len cap] 27)).alloc (.cells #[.string ⟨#[]⟩, .slice none 0 0] 27)).alloc (.cells #[.string m, .slice none 0 0] 27)).heap.size) := HBU.out.size
  have HGU := Lib.hid (obj_lt HGO.out)
  have HNE : Hid (w.heap.size ≠ w.heap.size + 2) := by show _ ≠ _; omega
  clear hlen hI
  go_enter Tryd.func24, Tryd.ntmps24
  go_wp2_with fail
  generalize ((w.alloc (.cells #[.string m, .slice A len cap] 27)).alloc (.cells #[.string ⟨#[]⟩, .slice none 0 0] 27)).alloc (.cells #[.string m, .slice none 0 0] 27) = U at *
  go_loopw [6] (fun i wr => ∃ k : Nat, k ≤ len ∧ i = .int .i64 (k : Int) ∧ MWants w U (w.heap.size + 2) m (outL no (l.take k)) wr) (fun i _ => len - (intOf i).toNat)
  case atStart => exact ⟨0, Nat.zero_le _, rfl, mwants_new HGO.out HBU.out⟩
  case round =>
    obtain ⟨k, hk, rfl, Y, cp, hbox, hown, hkeep, hb⟩ := hrel
    have HX := Lib.hid hbox
    have HO := Lib.hid hown
    have HK := Lib.hid hkeep
    have HB := Lib.hid hb
    have HXI : Hid (MBox wr w.heap.size m A len cap) := hkeep.obj HXU.out HNE.out
    have HT := Lib.hid (hkeep.vals HTU.out HGO.out)
    obtain ⟨x0, x1, _, _⟩ := obj_cells hbox
    obtain ⟨x2, x3, _, _⟩ := obj_cells HXI.out
    clear hown hbox hb hkeep
    by_cases hlt : k < len
    · have hkl : k < l.length := by have := HLEN.out; omega
      obtain ⟨a, n, s, rfl, hx, c0, c1⟩ := HT.out.at_ hkl
      have hst : outL no (l.take (k + 1)) = outL no (l.take k) ++ (if n = no then [] else [(n, s)]) := by rw [take_succ_item hkl, out_snoc, hx]
      have hkn := HKN.out k
      have HIT := Lib.hid hx
      have HKL := Lib.hid hkl
      clear hx hkl
      by_cases hz : n = no
      · have tz : (n != no) = false := by simpa using hz
        have HST := Lib.hid (hst.trans (by rw [if_pos hz, List.append_nil] : _ = outL no (l.take k)))
        clear hst hkn hz
        go_wp2
        go_roundw
        case rel => exact ⟨k + 1, by omega, by go_num, by rw [HST.out]; exact ⟨Y, cp, HX.out, HO.out, HK.out, HB.out⟩⟩
        case measure => simp [intOf]; omega
      · have tz : (n != no) = true := by simpa using hz
        have HST := Lib.hid (hst.trans (by rw [if_neg hz] : _ = outL no (l.take k) ++ [(n, s)]))
        clear hst hz
        generalize hkl : outL no (l.take k) = ks at *
        clear hkl
        generalize hm : ks.length = M at *
        have HMM := Lib.hid hm
        clear hm
        go_wp2_with fail
        clear x0 x1 x2 x3
        refine wp_region_noPanic ?_
        refine wp_region_late (fun u => MBox u (w.heap.size + 2) m Y M cp ∧ MBox u w.heap.size m (some a) len cap ∧ u.cell? (a.add (k * 2)) = some (.int .i64 n) ∧ u.cell? ⟨(a.add (k * 2)).block, (a.add (k * 2)).off + 1, none⟩ = some (.string s)) 10 (by kernel_rfl) ((show MBox wr (w.heap.size + 2) m Y M cp ∧ MBox wr w.heap.size m (some a) len cap ∧ wr.cell? (a.add (k * 2)) = some (.int .i64 n) ∧ wr.cell? ⟨(a.add (k * 2)).block, (a.add (k * 2)).off + 1, none⟩ = some (.string s) from ⟨HX.out, HXI.out, c0, c1⟩)) (fun hT => ?_)
        refine late_val (i := 0) (v := ?_) rfl (by kernel_rfl) (by kernel_rfl) (by kernel_rfl) (by kernel_rfl) (fun _ _ _ h => h) (by rfl) (fun u hu => ?_) hT ?_
        rotate_left
        · ((rcases hu with ⟨hu1, hu2, q0, q1⟩; obtain ⟨b0, b1, _, _⟩ := obj_cells hu1; obtain ⟨b2, b3, _, _⟩ := obj_cells hu2; clear hu1 hu2); go_simp; try (with_reducible rfl))
        try simp only [Act.put, List.setIfInBounds_toArray, List.set_cons_zero, List.set_cons_succ]
        refine late_val (i := 1) (v := ?_) rfl (by kernel_rfl) (by kernel_rfl) (by kernel_rfl) (by kernel_rfl) (fun _ _ _ h => h) (by rfl) (fun u hu => ?_) hT ?_
        rotate_left
        · ((rcases hu with ⟨hu1, hu2, q0, q1⟩; obtain ⟨b0, b1, _, _⟩ := obj_cells hu1; obtain ⟨b2, b3, _, _⟩ := obj_cells hu2; clear hu1 hu2); go_simp; try (with_reducible rfl))
        try simp only [Act.put, List.setIfInBounds_toArray, List.set_cons_zero, List.set_cons_succ]
        refine late_val (i := 2) (v := ?_) rfl (by kernel_rfl) (by kernel_rfl) (by kernel_rfl) (by kernel_rfl) (fun _ _ _ h => h) (by rfl) (fun u hu => ?_) hT ?_
        rotate_left
        · ((rcases hu with ⟨hu1, hu2, q0, q1⟩; obtain ⟨b0, b1, _, _⟩ := obj_cells hu1; obtain ⟨b2, b3, _, _⟩ := obj_cells hu2; clear hu1 hu2); go_simp; try (with_reducible rfl))
        try simp only [Act.put, List.setIfInBounds_toArray, List.set_cons_zero, List.set_cons_succ]
        refine late_val (i := 3) (v := ?_) rfl (by kernel_rfl) (by kernel_rfl) (by kernel_rfl) (by kernel_rfl) (fun _ _ _ h => h) (by rfl) (fun u hu => ?_) hT ?_
        rotate_left
        · ((rcases hu with ⟨hu1, hu2, q0, q1⟩; obtain ⟨b0, b1, _, _⟩ := obj_cells hu1; obtain ⟨b2, b3, _, _⟩ := obj_cells hu2; clear hu1 hu2); go_simp; try (with_reducible rfl))
        try simp only [Act.put, List.setIfInBounds_toArray, List.set_cons_zero, List.set_cons_succ]
        refine late_val (i := 4) (v := ?_) rfl (by kernel_rfl) (by kernel_rfl) (by kernel_rfl) (by kernel_rfl) (fun _ _ _ h => h) (by rfl) (fun u hu => ?_) hT ?_
        rotate_left
        · ((rcases hu with ⟨hu1, hu2, q0, q1⟩; obtain ⟨b0, b1, _, _⟩ := obj_cells hu1; obtain ⟨b2, b3, _, _⟩ := obj_cells hu2; clear hu1 hu2); go_simp; try (with_reducible rfl))
        try simp only [Act.put, List.setIfInBounds_toArray, List.set_cons_zero, List.set_cons_succ]
        refine late_val (i := 5) (v := ?_) rfl (by kernel_rfl) (by kernel_rfl) (by kernel_rfl) (by kernel_rfl) (fun _ _ _ h => h) (by rfl) (fun u hu => ?_) hT ?_
        rotate_left
        · ((rcases hu with ⟨hu1, hu2, q0, q1⟩; obtain ⟨b0, b1, _, _⟩ := obj_cells hu1; obtain ⟨b2, b3, _, _⟩ := obj_cells hu2; clear hu1 hu2); go_simp; try (with_reducible rfl))
        try simp only [Act.put, List.setIfInBounds_toArray, List.set_cons_zero, List.set_cons_succ]
        refine late_val (i := 6) (v := ?_) rfl (by kernel_rfl) (by kernel_rfl) (by kernel_rfl) (by kernel_rfl) (fun _ _ _ h => h) (by rfl) (fun u hu => ?_) hT ?_
        rotate_left
        · ((rcases hu with ⟨hu1, hu2, q0, q1⟩; obtain ⟨b0, b1, _, _⟩ := obj_cells hu1; obtain ⟨b2, b3, _, _⟩ := obj_cells hu2; clear hu1 hu2); go_simp; try (with_reducible rfl))
        try simp only [Act.put, List.setIfInBounds_toArray, List.set_cons_zero, List.set_cons_succ]
        refine late_lone (i := 7) rfl (by kernel_rfl) (by rfl) (fun K hK => ?_)
        go_simp
        refine hK.out _ _ (⟨HX.out.below (below_al wr (.cells #[.int .i64 n, .string s] 50)).drew, HXI.out.below (below_al wr (.cells #[.int .i64 n, .string s] 50)).drew, ((below_al wr (.cells #[.int .i64 n, .string s] 50)).cell (block_lt_of_cell c0)).trans c0, ((below_al wr (.cells #[.int .i64 n, .string s] 50)).cell (block_lt_of_cell c1)).trans c1⟩) ?_
        clear hK
        try simp only [Act.put, List.setIfInBounds_toArray, List.set_cons_zero, List.set_cons_succ]
        refine late_lone (i := 8) rfl (by kernel_rfl) (by rfl) (fun K hK => ?_)
        refine wp_append_lies _ _ _ _ (by rfl) U.heap.size 50 i0 _ 2 24 Tryd.underlying25 hi hz0 hz1 hz2 rfl (by omega) (.slice Y M cp) M (itemsC ks) (by rfl) ((HO.out.alloc _).drew) ⟨wr.heap.size, 0, none⟩ 1 1 (itemC (n, s)) (by rfl) (by rfl) (World.news_of_block (cs := #[.int .i64 n, .string s]) (t := 50) (fr := (0, 0)) (heap_alloc_new wr _)) (by simp [itemC, Value.oneCell']) (by omega) (by unfold maxLen; omega) (by omega) (by have := HK.out.1; simp; omega) (wr.heap.size + 1) (by simp) ?_
        intro g' cap' w6 hown6 hgrow6 hat6 hlt6
        have hbB : Below U.heap.size wr w6 := (((Below.refl _ _).alloc HK.out.1 _).drew).grown hgrow6 (by have := HK.out.1; simp; omega) (fun q hq => (HO.out.lt q hq).1)
        have HO6 := Lib.hid hown6
        have HK6 := Lib.hid (HK.out.step hbB)
        have HX6 : Hid (MBox w6 (w.heap.size + 2) m Y M cp) := (hbB.block _ HGU.out).trans HX.out
        have HXI6 : Hid (MBox w6 w.heap.size m (some a) len cap) := HK6.out.obj HXU.out HNE.out
        have HB6 := Lib.hid (HB.out.trans (hbB.mono HWU.out))
        have HT6 := Lib.hid (HK6.out.vals HTU.out HGO.out)
        obtain ⟨_, n6, s6, e6, hx6, y0, y1⟩ := HT6.out.at_ HKL.out
        injection e6 with e6
        subst e6
        rw [HIT.out] at hx6
        simp only [Prod.mk.injEq] at hx6
        obtain ⟨rfl, rfl⟩ := hx6
        clear hown6 hgrow6 hat6 hlt6 hbB
        refine hK.out _ _ (⟨HX6.out, HXI6.out, y0, y1⟩) ?_
        clear hK
        try simp only [Act.put, List.setIfInBounds_toArray, List.set_cons_zero, List.set_cons_succ]
        clear hT
        have hT : MBox w6 (w.heap.size + 2) m Y M cp ∧ MBox w6 w.heap.size m (some a) len cap ∧ w6.cell? (a.add (k * 2)) = some (.int .i64 n) ∧ w6.cell? ⟨(a.add (k * 2)).block, (a.add (k * 2)).off + 1, none⟩ = some (.string s) := ⟨HX6.out, HXI6.out, y0, y1⟩
        refine late_val (i := 9) (v := ?_) rfl (by kernel_rfl) (by kernel_rfl) (by kernel_rfl) (by kernel_rfl) (fun _ _ _ h => h) (by rfl) (fun u hu => ?_) hT ?_
        rotate_left
        · ((rcases hu with ⟨hu1, hu2, q0, q1⟩; obtain ⟨b0, b1, _, _⟩ := obj_cells hu1; obtain ⟨b2, b3, _, _⟩ := obj_cells hu2; clear hu1 hu2); go_simp; try (with_reducible rfl))
        try simp only [Act.put, List.setIfInBounds_toArray, List.set_cons_zero, List.set_cons_succ]
        refine late_only rfl (by kernel_rfl) (by rfl) (fun K hK => ?_)
        obtain ⟨j0, j1, f0, f1⟩ := obj_cells HX6.out
        go_simp
        refine hK.out _ _ ?_
        clear hK
        try simp only [Act.put, List.setIfInBounds_toArray, List.set_cons_zero, List.set_cons_succ]
        refine late_done (by kernel_rfl) (NoPanic.normal ?_) _
        clear hT j0 j1 f0 f1 y0 y1 c0 c1
        go_wp2
        go_roundw
        case rel => exact ⟨k + 1, by omega, by go_num, by rw [HST.out]; exact mwants_put HGU.out (Nat.le_add_right _ _) HMM.out HX6.out HO6.out HK6.out HB6.out⟩
        case measure => simp [intOf]; omega
    · have he : l.take k = l := items_all (by have := HLEN.out; omega)
      have ho1 := HO.out
      have hx1 := HX.out
      rw [he] at ho1 hx1
      have HT1 := Lib.hid (vals_own_at ho1 rfl)
      have HXR : Hid (MBox wr (w.heap.size + 1) ⟨#[]⟩ none 0 0) := HK.out.obj HRU.out (show w.heap.size + 1 ≠ w.heap.size + 2 by omega)
      obtain ⟨d0, d1, _, _⟩ := obj_cells hx1
      obtain ⟨r0, r1, f0, f1⟩ := obj_cells HXR.out
      clear ho1 hx1 he HO x0 x1 HX
      generalize hrn : (outL no l).length = rn at *
      have HRN := Lib.hid hrn
      clear hrn
      go_wp2
      refine bodyPost_ret (results_cell_row rfl _ _ (w.heap.size + 1) _ _ _ _ rfl (obj_set2 HXR.out _ _) Tryd.underlying27 rfl (by kernel_rfl)) rfl ?_
      exact ⟨Y, cp, by rw [HRN.out], vals_store2 HT1.out HXR.out _ _ _ _, below_set2 HB.out (by omega) _ _⟩

set_option maxRecDepth 100000 in
set_option maxHeartbeats 12800000 in
theorem mrwith_any (m : ByteArray) (A : Option Addr) (cap : Nat) (l : List Item) (no : Int) (t : ByteArray) (w : World) (hI : Tlvs w A l) (hn : l.length ≤ 999) :
    Calls Tryd.prog 23 #[.agg #[.string m, .slice A l.length cap], .int .i64 no, .string t] w fun e w' => ∃ A' cap', e = .returned (.agg #[.string m, .slice A' (withL no t l).length cap']) ∧ Tlvs w' A' (withL no t l) ∧ Below w.heap.size w w' := by
  obtain ⟨i0, hi, hz0, hz1, hz2⟩ := info_parts Tryd.infoVal
  have HQ := Lib.hid (fun W hW => mrwithout_any m A cap l no W hW (by omega))
  have hrl : (outL no l).length ≤ 999 := Nat.le_trans (out_length no l) hn
  have HRW : Hid (refW (no, t) false (outL no l) = withL no t l) := refW_ins _ _
  generalize hlen : l.length = len at *
  clear hlen
  have HBU := Lib.hid (hbt (hbt (below_al w (.cells #[.string m, .slice A len cap] 27)) (below_al _ (.cells #[.string ⟨#[]⟩, .slice none 0 0] 27))) (below_al _ (.cells #[.string m, .slice none 0 0] 27)))
  have HRU : Hid (MBox (((w.alloc (.cells #[.string m, .slice A len cap] 27)).alloc (.cells #[.string ⟨#[]⟩, .slice none 0 0] 27)).alloc (.cells #[.string m, .slice none 0 0] 27)) (w.heap.size + 1) ⟨#[]⟩ none 0 0) := obj_below (heap_al _ _ _ (by simp)) (below_al _ _)
  have HGO : Hid (MBox (((w.alloc (.cells #[.string m, .slice A len cap] 27)).alloc (.cells #[.string ⟨#[]⟩, .slice none 0 0] 27)).alloc (.cells #[.string m, .slice none 0 0] 27)) (w.heap.size + 2) m none 0 0) := heap_al _ _ _ (by simp)
  have HI := Lib.hid (hI.below HBU.out)
  clear hI
  generalize hR : withL no t l = R at *
  have HR0 := Lib.hid hR
  clear hR
  generalize outL no l = r at *
  generalize hrn : r.length = rn at *
  have HRN := Lib.hid hrn
  clear hrn
  go_enter Tryd.func23, Tryd.ntmps23
  go_wp2_with fail
  generalize ((w.alloc (.cells #[.string m, .slice A len cap] 27)).alloc (.cells #[.string ⟨#[]⟩, .slice none 0 0] 27)).alloc (.cells #[.string m, .slice none 0 0] 27) = U0 at *
  refine (HQ.out _ HI.out).mono ?_
  rintro e w2 ⟨A2, c2, rfl, ht2, hb2⟩
  have HXU := Lib.hid (mbox_new w2 m A2 rn c2)
  have HRU2 := Lib.hid ((HRU.out.below hb2).below (below_al w2 (.cells #[.string m, .slice A2 rn c2] 27)))
  have HGO2 := Lib.hid ((HGO.out.below hb2).below (below_al w2 (.cells #[.string m, .slice A2 rn c2] 27)))
  have HTU := Lib.hid (ht2.below (below_al w2 (.cells #[.string m, .slice A2 rn c2] 27)))
  have HBU2 := Lib.hid (hbt (hbt HBU.out hb2) (below_al w2 (.cells #[.string m, .slice A2 rn c2] 27)))
  have HNE : Hid (w2.heap.size ≠ w.heap.size + 2) := by have := obj_lt (HGO.out.below hb2); show _ ≠ _; omega
  clear HRU HGO HBU HI ht2 hb2 HQ
  have HGO := HGO2
  have HRU := HRU2
  have HBU := HBU2
  have HGU := Lib.hid (obj_lt HGO.out)
  have HWU := Lib.hid HBU.out.size
  clear HGO2 HRU2 HBU2
  go_wp2_with fail
  generalize w2.alloc (.cells #[.string m, .slice A2 rn c2] 27) = U at *
  generalize w2.heap.size = go at *
  go_loopw [9, 10] (fun y i wr => ∃ (k : Nat) (d : Bool) (ks : List Item), k ≤ rn ∧ i = .int .i64 (k : Int) ∧ y = .bool d ∧ ks ++ refW (no, t) d (r.drop k) = R ∧ ks.length ≤ k + d.toNat ∧ MWants w U (w.heap.size + 2) m ks wr) (fun _ i _ => rn - (intOf i).toNat)
  case atStart => exact ⟨0, false, [], Nat.zero_le _, rfl, rfl, by rw [List.nil_append]; exact HRW.out, by simp, mwants_new HGO.out HBU.out⟩
  case round =>
    obtain ⟨k, d, ks, hk, rfl, rfl, hrest, hksl, Y, cp, hbox, hown, hkeep, hb⟩ := hrel
    have HR := Lib.hid hrest
    have HX := Lib.hid hbox
    have HO := Lib.hid hown
    have HK := Lib.hid hkeep
    have HB := Lib.hid hb
    have HXI : Hid (MBox wr go m A2 rn c2) := hkeep.obj HXU.out HNE.out
    have HT := Lib.hid (hkeep.vals HTU.out HGO.out)
    obtain ⟨x0, x1, _, _⟩ := obj_cells hbox
    obtain ⟨x2, x3, _, _⟩ := obj_cells HXI.out
    clear hown hbox hb hkeep hrest HRW HR0
    generalize hm : ks.length = M at *
    have HMM := Lib.hid hm
    have HKSL := Lib.hid hksl
    replace hksl : M ≤ k + 1 := Nat.le_trans hksl (Nat.add_le_add_left (Bool.toNat_le d) k)
    clear hm
    by_cases hlt : k < rn
    · have hkl : k < r.length := by have := HRN.out; omega
      obtain ⟨a, n, s, rfl, hx, c0, c1⟩ := HT.out.at_ hkl
      have HD := Lib.hid (drop_item hkl)
      have HIT := Lib.hid hx
      have HKL := Lib.hid hkl
      rw [hx] at HD
      clear hx hkl
      by_cases hz : d = false ∧ no < n
      · obtain ⟨rfl, hz⟩ := hz
        have tz : decide (no < n) = true := by simpa using hz
        have HST : Hid ((ks ++ [(no, t)]) ++ [(n, s)] ++ refW (no, t) true (r.drop (k + 1)) = R) := by
          show _ = _
          rw [← HR.out, HD.out, refW_hit hz, refW_true, List.append_assoc, List.append_assoc]; rfl
        clear hz HR
        go_upto_region 10 with (at_builtin; refine wpList_append_lies _ rfl _ _ _ rfl U.heap.size 50 i0 _ 2 24 Tryd.underlying25 hi hz0 hz1 hz2 rfl (by omega) (.slice Y M cp) M (itemsC ks) rfl (HO.out.alloc _) ⟨wr.heap.size, 0, none⟩ 1 1 (itemC (no, t)) rfl rfl (World.news_of_block (cs := #[.int .i64 no, .string t]) (t := 50) (fr := (0, 0)) (heap_alloc_new wr _)) (by simp [itemC, Value.oneCell']) (by omega) (by unfold maxLen; omega) (by omega) (by have := HK.out.1; simp; omega) (wr.heap.size + 1) (by simp) ?_; intro g' cap' w6 hown6 hgrow6 hat6 hlt6; have hbB : Below U.heap.size wr w6 := ((Below.refl _ _).alloc HK.out.1 _).grown hgrow6 (by have := HK.out.1; simp; omega) (fun q hq => (HO.out.lt q hq).1); have HO6 := Lib.hid hown6; have HK6 := Lib.hid (HK.out.step hbB); have HX6 : Hid (MBox w6 (w.heap.size + 2) m Y M cp) := (hbB.block _ HGU.out).trans HX.out; have HB6 := Lib.hid (HB.out.trans (hbB.mono HWU.out)); obtain ⟨j0, j1, f0, f1⟩ := obj_cells HX6.out; clear hown6 hgrow6 hat6 hlt6 hbB)
        have HM7 := Lib.hid (mwants_put HGU.out (Nat.le_add_right _ _) HMM.out HX6.out HO6.out HK6.out HB6.out)
        clear c0 c1 x0 x1 x2 x3 j0 j1 f0 f1 HX HO HK HB HXI HT HX6 HO6 HK6 HB6
        generalize w6.setCell _ _ = W7 at *
        obtain ⟨Y7, cp7, hbox, hown, hkeep, hb⟩ := HM7.out
        generalize hks : ks ++ [(no, t)] = ks7 at *
        have hksl7 : ks7.length ≤ k + 1 := by have h7 : M ≤ k := HKSL.out; rw [← hks, List.length_append, HMM.out, List.length_singleton]; omega
        clear hks HM7 HMM
        generalize hm : ks7.length = M7 at *
        have HMM := Lib.hid hm
        have HX := Lib.hid hbox
        have HO := Lib.hid hown
        have HK := Lib.hid hkeep
        have HB := Lib.hid hb
        have HXI : Hid (MBox W7 go m (some a) rn c2) := hkeep.obj HXU.out HNE.out
        have HT := Lib.hid (hkeep.vals HTU.out HGO.out)
        obtain ⟨_, n7, s7, e7, hx7, c0, c1⟩ := HT.out.at_ HKL.out
        injection e7 with e7
        subst e7
        rw [HIT.out] at hx7
        simp only [Prod.mk.injEq] at hx7
        obtain ⟨rfl, rfl⟩ := hx7
        clear hbox hown hkeep hb hm
        refine wp_region_noPanic ?_
        refine wp_region_late (fun u => MBox u (w.heap.size + 2) m Y7 M7 cp7 ∧ MBox u go m (some a) rn c2 ∧ u.cell? (a.add (k * 2)) = some (.int .i64 n) ∧ u.cell? ⟨(a.add (k * 2)).block, (a.add (k * 2)).off + 1, none⟩ = some (.string s)) 10 (by kernel_rfl) ((show MBox W7 (w.heap.size + 2) m Y7 M7 cp7 ∧ MBox W7 go m (some a) rn c2 ∧ W7.cell? (a.add (k * 2)) = some (.int .i64 n) ∧ W7.cell? ⟨(a.add (k * 2)).block, (a.add (k * 2)).off + 1, none⟩ = some (.string s) from ⟨HX.out, HXI.out, c0, c1⟩)) (fun hT => ?_)
        refine late_val (i := 0) (v := ?_) rfl (by kernel_rfl) (by kernel_rfl) (by kernel_rfl) (by kernel_rfl) (fun _ _ _ h => h) (by rfl) (fun u hu => ?_) hT ?_
        rotate_left
        · ((rcases hu with ⟨hu1, hu2, q0, q1⟩; obtain ⟨b0, b1, _, _⟩ := obj_cells hu1; obtain ⟨b2, b3, _, _⟩ := obj_cells hu2; clear hu1 hu2); go_simp; try (with_reducible rfl))
        try simp only [Act.put, List.setIfInBounds_toArray, List.set_cons_zero, List.set_cons_succ]
        refine late_val (i := 1) (v := ?_) rfl (by kernel_rfl) (by kernel_rfl) (by kernel_rfl) (by kernel_rfl) (fun _ _ _ h => h) (by rfl) (fun u hu => ?_) hT ?_
        rotate_left
        · ((rcases hu with ⟨hu1, hu2, q0, q1⟩; obtain ⟨b0, b1, _, _⟩ := obj_cells hu1; obtain ⟨b2, b3, _, _⟩ := obj_cells hu2; clear hu1 hu2); go_simp; try (with_reducible rfl))
        try simp only [Act.put, List.setIfInBounds_toArray, List.set_cons_zero, List.set_cons_succ]
        refine late_val (i := 2) (v := ?_) rfl (by kernel_rfl) (by kernel_rfl) (by kernel_rfl) (by kernel_rfl) (fun _ _ _ h => h) (by rfl) (fun u hu => ?_) hT ?_
        rotate_left
        · ((rcases hu with ⟨hu1, hu2, q0, q1⟩; obtain ⟨b0, b1, _, _⟩ := obj_cells hu1; obtain ⟨b2, b3, _, _⟩ := obj_cells hu2; clear hu1 hu2); go_simp; try (with_reducible rfl))
        try simp only [Act.put, List.setIfInBounds_toArray, List.set_cons_zero, List.set_cons_succ]
        refine late_val (i := 3) (v := ?_) rfl (by kernel_rfl) (by kernel_rfl) (by kernel_rfl) (by kernel_rfl) (fun _ _ _ h => h) (by rfl) (fun u hu => ?_) hT ?_
        rotate_left
        · ((rcases hu with ⟨hu1, hu2, q0, q1⟩; obtain ⟨b0, b1, _, _⟩ := obj_cells hu1; obtain ⟨b2, b3, _, _⟩ := obj_cells hu2; clear hu1 hu2); go_simp; try (with_reducible rfl))
        try simp only [Act.put, List.setIfInBounds_toArray, List.set_cons_zero, List.set_cons_succ]
        refine late_val (i := 4) (v := ?_) rfl (by kernel_rfl) (by kernel_rfl) (by kernel_rfl) (by kernel_rfl) (fun _ _ _ h => h) (by rfl) (fun u hu => ?_) hT ?_
        rotate_left
        · ((rcases hu with ⟨hu1, hu2, q0, q1⟩; obtain ⟨b0, b1, _, _⟩ := obj_cells hu1; obtain ⟨b2, b3, _, _⟩ := obj_cells hu2; clear hu1 hu2); go_simp; try (with_reducible rfl))
        try simp only [Act.put, List.setIfInBounds_toArray, List.set_cons_zero, List.set_cons_succ]
        refine late_val (i := 5) (v := ?_) rfl (by kernel_rfl) (by kernel_rfl) (by kernel_rfl) (by kernel_rfl) (fun _ _ _ h => h) (by rfl) (fun u hu => ?_) hT ?_
        rotate_left
        · ((rcases hu with ⟨hu1, hu2, q0, q1⟩; obtain ⟨b0, b1, _, _⟩ := obj_cells hu1; obtain ⟨b2, b3, _, _⟩ := obj_cells hu2; clear hu1 hu2); go_simp; try (with_reducible rfl))
        try simp only [Act.put, List.setIfInBounds_toArray, List.set_cons_zero, List.set_cons_succ]
        refine late_val (i := 6) (v := ?_) rfl (by kernel_rfl) (by kernel_rfl) (by kernel_rfl) (by kernel_rfl) (fun _ _ _ h => h) (by rfl) (fun u hu => ?_) hT ?_
        rotate_left
        · ((rcases hu with ⟨hu1, hu2, q0, q1⟩; obtain ⟨b0, b1, _, _⟩ := obj_cells hu1; obtain ⟨b2, b3, _, _⟩ := obj_cells hu2; clear hu1 hu2); go_simp; try (with_reducible rfl))
        try simp only [Act.put, List.setIfInBounds_toArray, List.set_cons_zero, List.set_cons_succ]
        refine late_lone (i := 7) rfl (by kernel_rfl) (by rfl) (fun K hK => ?_)
        go_simp
        refine hK.out _ _ (⟨HX.out.below (below_al W7 (.cells #[.int .i64 n, .string s] 50)).drew, HXI.out.below (below_al W7 (.cells #[.int .i64 n, .string s] 50)).drew, ((below_al W7 (.cells #[.int .i64 n, .string s] 50)).cell (block_lt_of_cell c0)).trans c0, ((below_al W7 (.cells #[.int .i64 n, .string s] 50)).cell (block_lt_of_cell c1)).trans c1⟩) ?_
        clear hK
        try simp only [Act.put, List.setIfInBounds_toArray, List.set_cons_zero, List.set_cons_succ]
        refine late_lone (i := 8) rfl (by kernel_rfl) (by rfl) (fun K hK => ?_)
        refine wp_append_lies _ _ _ _ (by rfl) U.heap.size 50 i0 _ 2 24 Tryd.underlying25 hi hz0 hz1 hz2 rfl (by omega) (.slice Y7 M7 cp7) M7 (itemsC ks7) (by rfl) ((HO.out.alloc _).drew) ⟨W7.heap.size, 0, none⟩ 1 1 (itemC (n, s)) (by rfl) (by rfl) (World.news_of_block (cs := #[.int .i64 n, .string s]) (t := 50) (fr := (0, 0)) (heap_alloc_new W7 _)) (by simp [itemC, Value.oneCell']) (by omega) (by unfold maxLen; omega) (by omega) (by have := HK.out.1; simp; omega) (W7.heap.size + 1) (by simp) ?_
        intro g' cap' w6 hown6 hgrow6 hat6 hlt6
        have hbB : Below U.heap.size W7 w6 := (((Below.refl _ _).alloc HK.out.1 _).drew).grown hgrow6 (by have := HK.out.1; simp; omega) (fun q hq => (HO.out.lt q hq).1)
        have HO6 := Lib.hid hown6
        have HK6 := Lib.hid (HK.out.step hbB)
        have HX6 : Hid (MBox w6 (w.heap.size + 2) m Y7 M7 cp7) := (hbB.block _ HGU.out).trans HX.out
        have HXI6 : Hid (MBox w6 go m (some a) rn c2) := HK6.out.obj HXU.out HNE.out
        have HB6 := Lib.hid (HB.out.trans (hbB.mono HWU.out))
        have HT6 := Lib.hid (HK6.out.vals HTU.out HGO.out)
        obtain ⟨_, n6, s6, e6, hx6, y0, y1⟩ := HT6.out.at_ HKL.out
        injection e6 with e6
        subst e6
        rw [HIT.out] at hx6
        simp only [Prod.mk.injEq] at hx6
        obtain ⟨rfl, rfl⟩ := hx6
        clear hown6 hgrow6 hat6 hlt6 hbB
        refine hK.out _ _ (⟨HX6.out, HXI6.out, y0, y1⟩) ?_
        clear hK
        try simp only [Act.put, List.setIfInBounds_toArray, List.set_cons_zero, List.set_cons_succ]
        clear hT
        have hT : MBox w6 (w.heap.size + 2) m Y7 M7 cp7 ∧ MBox w6 go m (some a) rn c2 ∧ w6.cell? (a.add (k * 2)) = some (.int .i64 n) ∧ w6.cell? ⟨(a.add (k * 2)).block, (a.add (k * 2)).off + 1, none⟩ = some (.string s) := ⟨HX6.out, HXI6.out, y0, y1⟩
        refine late_val (i := 9) (v := ?_) rfl (by kernel_rfl) (by kernel_rfl) (by kernel_rfl) (by kernel_rfl) (fun _ _ _ h => h) (by rfl) (fun u hu => ?_) hT ?_
        rotate_left
        · ((rcases hu with ⟨hu1, hu2, q0, q1⟩; obtain ⟨b0, b1, _, _⟩ := obj_cells hu1; obtain ⟨b2, b3, _, _⟩ := obj_cells hu2; clear hu1 hu2); go_simp; try (with_reducible rfl))
        try simp only [Act.put, List.setIfInBounds_toArray, List.set_cons_zero, List.set_cons_succ]
        refine late_only rfl (by kernel_rfl) (by rfl) (fun K hK => ?_)
        obtain ⟨j0, j1, f0, f1⟩ := obj_cells HX6.out
        go_simp
        refine hK.out _ _ ?_
        clear hK
        try simp only [Act.put, List.setIfInBounds_toArray, List.set_cons_zero, List.set_cons_succ]
        refine late_done (by kernel_rfl) (NoPanic.normal ?_) _
        clear hT j0 j1 f0 f1 y0 y1 c0 c1
        go_wp2
        go_roundw
        case rel => exact ⟨k + 1, true, ks7 ++ [(n, s)], by omega, by go_num, rfl, HST.out, by rw [List.length_append, HMM.out, List.length_singleton]; exact Nat.succ_le_succ hksl7, mwants_put HGU.out (Nat.le_add_right _ _) HMM.out HX6.out HO6.out HK6.out HB6.out⟩
        case measure => simp [intOf]; omega
      · have HST : Hid (ks ++ [(n, s)] ++ refW (no, t) d (r.drop (k + 1)) = R) := by
          show _ = _
          cases d
          · rw [← HR.out, HD.out, refW_miss (fun h => hz ⟨rfl, h⟩), List.append_assoc]; rfl
          · rw [← HR.out, HD.out, refW_true, refW_true, List.append_assoc]; rfl
        have tz : d = false → decide (no < n) = false := fun e => by simp; exact Int.not_lt.1 fun h => hz ⟨e, h⟩
        clear hz HR
        cases d
        all_goals
          have tz := tz
          simp only [reduceCtorEq, false_implies, true_implies] at tz
          go_wp2_with fail
          clear x0 x1 x2 x3
          refine wp_region_noPanic ?_
          refine wp_region_late (fun u => MBox u (w.heap.size + 2) m Y M cp ∧ MBox u go m (some a) rn c2 ∧ u.cell? (a.add (k * 2)) = some (.int .i64 n) ∧ u.cell? ⟨(a.add (k * 2)).block, (a.add (k * 2)).off + 1, none⟩ = some (.string s)) 10 (by kernel_rfl) ((show MBox wr (w.heap.size + 2) m Y M cp ∧ MBox wr go m (some a) rn c2 ∧ wr.cell? (a.add (k * 2)) = some (.int .i64 n) ∧ wr.cell? ⟨(a.add (k * 2)).block, (a.add (k * 2)).off + 1, none⟩ = some (.string s) from ⟨HX.out, HXI.out, c0, c1⟩)) (fun hT => ?_)
          refine late_val (i := 0) (v := ?_) rfl (by kernel_rfl) (by kernel_rfl) (by kernel_rfl) (by kernel_rfl) (fun _ _ _ h => h) (by rfl) (fun u hu => ?_) hT ?_
          rotate_left
          · ((rcases hu with ⟨hu1, hu2, q0, q1⟩; obtain ⟨b0, b1, _, _⟩ := obj_cells hu1; obtain ⟨b2, b3, _, _⟩ := obj_cells hu2; clear hu1 hu2); go_simp; try (with_reducible rfl))
          try simp only [Act.put, List.setIfInBounds_toArray, List.set_cons_zero, List.set_cons_succ]
          refine late_val (i := 1) (v := ?_) rfl (by kernel_rfl) (by kernel_rfl) (by kernel_rfl) (by kernel_rfl) (fun _ _ _ h => h) (by rfl) (fun u hu => ?_) hT ?_
          rotate_left
          · ((rcases hu with ⟨hu1, hu2, q0, q1⟩; obtain ⟨b0, b1, _, _⟩ := obj_cells hu1; obtain ⟨b2, b3, _, _⟩ := obj_cells hu2; clear hu1 hu2); go_simp; try (with_reducible rfl))
          try simp only [Act.put, List.setIfInBounds_toArray, List.set_cons_zero, List.set_cons_succ]
          refine late_val (i := 2) (v := ?_) rfl (by kernel_rfl) (by kernel_rfl) (by kernel_rfl) (by kernel_rfl) (fun _ _ _ h => h) (by rfl) (fun u hu => ?_) hT ?_
          rotate_left
          · ((rcases hu with ⟨hu1, hu2, q0, q1⟩; obtain ⟨b0, b1, _, _⟩ := obj_cells hu1; obtain ⟨b2, b3, _, _⟩ := obj_cells hu2; clear hu1 hu2); go_simp; try (with_reducible rfl))
          try simp only [Act.put, List.setIfInBounds_toArray, List.set_cons_zero, List.set_cons_succ]
          refine late_val (i := 3) (v := ?_) rfl (by kernel_rfl) (by kernel_rfl) (by kernel_rfl) (by kernel_rfl) (fun _ _ _ h => h) (by rfl) (fun u hu => ?_) hT ?_
          rotate_left
          · ((rcases hu with ⟨hu1, hu2, q0, q1⟩; obtain ⟨b0, b1, _, _⟩ := obj_cells hu1; obtain ⟨b2, b3, _, _⟩ := obj_cells hu2; clear hu1 hu2); go_simp; try (with_reducible rfl))
          try simp only [Act.put, List.setIfInBounds_toArray, List.set_cons_zero, List.set_cons_succ]
          refine late_val (i := 4) (v := ?_) rfl (by kernel_rfl) (by kernel_rfl) (by kernel_rfl) (by kernel_rfl) (fun _ _ _ h => h) (by rfl) (fun u hu => ?_) hT ?_
          rotate_left
          · ((rcases hu with ⟨hu1, hu2, q0, q1⟩; obtain ⟨b0, b1, _, _⟩ := obj_cells hu1; obtain ⟨b2, b3, _, _⟩ := obj_cells hu2; clear hu1 hu2); go_simp; try (with_reducible rfl))
          try simp only [Act.put, List.setIfInBounds_toArray, List.set_cons_zero, List.set_cons_succ]
          refine late_val (i := 5) (v := ?_) rfl (by kernel_rfl) (by kernel_rfl) (by kernel_rfl) (by kernel_rfl) (fun _ _ _ h => h) (by rfl) (fun u hu => ?_) hT ?_
          rotate_left
          · ((rcases hu with ⟨hu1, hu2, q0, q1⟩; obtain ⟨b0, b1, _, _⟩ := obj_cells hu1; obtain ⟨b2, b3, _, _⟩ := obj_cells hu2; clear hu1 hu2); go_simp; try (with_reducible rfl))
          try simp only [Act.put, List.setIfInBounds_toArray, List.set_cons_zero, List.set_cons_succ]
          refine late_val (i := 6) (v := ?_) rfl (by kernel_rfl) (by kernel_rfl) (by kernel_rfl) (by kernel_rfl) (fun _ _ _ h => h) (by rfl) (fun u hu => ?_) hT ?_
          rotate_left
          · ((rcases hu with ⟨hu1, hu2, q0, q1⟩; obtain ⟨b0, b1, _, _⟩ := obj_cells hu1; obtain ⟨b2, b3, _, _⟩ := obj_cells hu2; clear hu1 hu2); go_simp; try (with_reducible rfl))
          try simp only [Act.put, List.setIfInBounds_toArray, List.set_cons_zero, List.set_cons_succ]
          refine late_lone (i := 7) rfl (by kernel_rfl) (by rfl) (fun K hK => ?_)
          go_simp
          refine hK.out _ _ (⟨HX.out.below (below_al wr (.cells #[.int .i64 n, .string s] 50)).drew, HXI.out.below (below_al wr (.cells #[.int .i64 n, .string s] 50)).drew, ((below_al wr (.cells #[.int .i64 n, .string s] 50)).cell (block_lt_of_cell c0)).trans c0, ((below_al wr (.cells #[.int .i64 n, .string s] 50)).cell (block_lt_of_cell c1)).trans c1⟩) ?_
          clear hK
          try simp only [Act.put, List.setIfInBounds_toArray, List.set_cons_zero, List.set_cons_succ]
          refine late_lone (i := 8) rfl (by kernel_rfl) (by rfl) (fun K hK => ?_)
          refine wp_append_lies _ _ _ _ (by rfl) U.heap.size 50 i0 _ 2 24 Tryd.underlying25 hi hz0 hz1 hz2 rfl (by omega) (.slice Y M cp) M (itemsC ks) (by rfl) ((HO.out.alloc _).drew) ⟨wr.heap.size, 0, none⟩ 1 1 (itemC (n, s)) (by rfl) (by rfl) (World.news_of_block (cs := #[.int .i64 n, .string s]) (t := 50) (fr := (0, 0)) (heap_alloc_new wr _)) (by simp [itemC, Value.oneCell']) (by omega) (by unfold maxLen; omega) (by omega) (by have := HK.out.1; simp; omega) (wr.heap.size + 1) (by simp) ?_
          intro g' cap' w6 hown6 hgrow6 hat6 hlt6
          have hbB : Below U.heap.size wr w6 := (((Below.refl _ _).alloc HK.out.1 _).drew).grown hgrow6 (by have := HK.out.1; simp; omega) (fun q hq => (HO.out.lt q hq).1)
          have HO6 := Lib.hid hown6
          have HK6 := Lib.hid (HK.out.step hbB)
          have HX6 : Hid (MBox w6 (w.heap.size + 2) m Y M cp) := (hbB.block _ HGU.out).trans HX.out
          have HXI6 : Hid (MBox w6 go m (some a) rn c2) := HK6.out.obj HXU.out HNE.out
          have HB6 := Lib.hid (HB.out.trans (hbB.mono HWU.out))
          have HT6 := Lib.hid (HK6.out.vals HTU.out HGO.out)
          obtain ⟨_, n6, s6, e6, hx6, y0, y1⟩ := HT6.out.at_ HKL.out
          injection e6 with e6
          subst e6
          rw [HIT.out] at hx6
          simp only [Prod.mk.injEq] at hx6
          obtain ⟨rfl, rfl⟩ := hx6
          clear hown6 hgrow6 hat6 hlt6 hbB
          refine hK.out _ _ (⟨HX6.out, HXI6.out, y0, y1⟩) ?_
          clear hK
          try simp only [Act.put, List.setIfInBounds_toArray, List.set_cons_zero, List.set_cons_succ]
          clear hT
          have hT : MBox w6 (w.heap.size + 2) m Y M cp ∧ MBox w6 go m (some a) rn c2 ∧ w6.cell? (a.add (k * 2)) = some (.int .i64 n) ∧ w6.cell? ⟨(a.add (k * 2)).block, (a.add (k * 2)).off + 1, none⟩ = some (.string s) := ⟨HX6.out, HXI6.out, y0, y1⟩
          refine late_val (i := 9) (v := ?_) rfl (by kernel_rfl) (by kernel_rfl) (by kernel_rfl) (by kernel_rfl) (fun _ _ _ h => h) (by rfl) (fun u hu => ?_) hT ?_
          rotate_left
          · ((rcases hu with ⟨hu1, hu2, q0, q1⟩; obtain ⟨b0, b1, _, _⟩ := obj_cells hu1; obtain ⟨b2, b3, _, _⟩ := obj_cells hu2; clear hu1 hu2); go_simp; try (with_reducible rfl))
          try simp only [Act.put, List.setIfInBounds_toArray, List.set_cons_zero, List.set_cons_succ]
          refine late_only rfl (by kernel_rfl) (by rfl) (fun K hK => ?_)
          obtain ⟨j0, j1, f0, f1⟩ := obj_cells HX6.out
          go_simp
          refine hK.out _ _ ?_
          clear hK
          try simp only [Act.put, List.setIfInBounds_toArray, List.set_cons_zero, List.set_cons_succ]
          refine late_done (by kernel_rfl) (NoPanic.normal ?_) _
          clear hT j0 j1 f0 f1 y0 y1 c0 c1
          go_wp2
          go_roundw
          case rel => exact ⟨k + 1, _, ks ++ [(n, s)], by omega, by go_num, rfl, HST.out, by have h8 := HKSL.out; rw [List.length_append, HMM.out, List.length_singleton, Nat.add_right_comm]; exact Nat.succ_le_succ h8, mwants_put HGU.out (Nat.le_add_right _ _) HMM.out HX6.out HO6.out HK6.out HB6.out⟩
          case measure => simp [intOf]; omega
    · have HE := Lib.hid (items_end (l := r) (k := k) (by have := HRN.out; omega))
      cases d
      · have HKS : Hid (ks ++ [(no, t)] = R) := by show _ = _; rw [← HR.out, HE.out]; rfl
        go_upto_region 13 with (at_builtin; refine wpList_append_lies _ rfl _ _ _ rfl U.heap.size 50 i0 _ 2 24 Tryd.underlying25 hi hz0 hz1 hz2 rfl (by omega) (.slice Y M cp) M (itemsC ks) rfl (HO.out.alloc _) ⟨wr.heap.size, 0, none⟩ 1 1 (itemC (no, t)) rfl rfl (World.news_of_block (cs := #[.int .i64 no, .string t]) (t := 50) (fr := (0, 0)) (heap_alloc_new wr _)) (by simp [itemC, Value.oneCell']) (by omega) (by unfold maxLen; omega) (by omega) (by have := HK.out.1; simp; omega) (wr.heap.size + 1) (by simp) ?_; intro g' cap' w6 hown6 hgrow6 hat6 hlt6; have hbB : Below U.heap.size wr w6 := ((Below.refl _ _).alloc HK.out.1 _).grown hgrow6 (by have := HK.out.1; simp; omega) (fun q hq => (HO.out.lt q hq).1); have HO6 := Lib.hid hown6; have HK6 := Lib.hid (HK.out.step hbB); have HX6 : Hid (MBox w6 (w.heap.size + 2) m Y M cp) := (hbB.block _ HGU.out).trans HX.out; have HB6 := Lib.hid (HB.out.trans (hbB.mono HWU.out)); obtain ⟨j0, j1, f0, f1⟩ := obj_cells HX6.out; clear hown6 hgrow6 hat6 hlt6 hbB)
        have HM7 := Lib.hid (mwants_put HGU.out (Nat.le_add_right _ _) HMM.out HX6.out HO6.out HK6.out HB6.out)
        rw [HKS.out] at HM7
        clear x0 x1 x2 x3 j0 j1 f0 f1 HX HO HK HB HXI HT HX6 HO6 HK6 HB6
        generalize w6.setCell _ _ = W7 at *
        obtain ⟨Y7, cp7, hbox, hown, hkeep, hb⟩ := HM7.out
        have HB := Lib.hid hb
        have HT7 := Lib.hid (vals_own_at hown rfl)
        have HXR : Hid (MBox W7 (w.heap.size + 1) ⟨#[]⟩ none 0 0) := hkeep.obj HRU.out (show w.heap.size + 1 ≠ w.heap.size + 2 by omega)
        obtain ⟨d0, d1, _, _⟩ := obj_cells hbox
        obtain ⟨r0, r1, f0, f1⟩ := obj_cells HXR.out
        clear hbox hown hkeep hb HM7 HKS
        generalize hrl2 : R.length = RL at *
        have HRL := Lib.hid hrl2
        clear hrl2
        go_wp2
        refine bodyPost_ret (results_cell_row rfl _ _ (w.heap.size + 1) _ _ _ _ rfl (obj_set2 HXR.out _ _) Tryd.underlying27 rfl (by kernel_rfl)) rfl ?_
        exact ⟨Y7, cp7, by rw [HRL.out], vals_store2 HT7.out HXR.out _ _ _ _, below_set2 HB.out (by omega) _ _⟩
      · have HKS : Hid (ks = R) := by show _ = _; rw [← HR.out, HE.out, refW_true, List.append_nil]
        have HM7 : Hid (MWants w U (w.heap.size + 2) m ks wr) := ⟨Y, cp, by rw [HMM.out]; exact HX.out, by rw [HMM.out]; exact HO.out, HK.out, HB.out⟩
        rw [HKS.out] at HM7
        go_upto_region 13 with fail
        clear x0 x1 x2 x3 HX HO HK HB HXI HT
        generalize wr = W7 at *
        obtain ⟨Y7, cp7, hbox, hown, hkeep, hb⟩ := HM7.out
        have HB := Lib.hid hb
        have HT7 := Lib.hid (vals_own_at hown rfl)
        have HXR : Hid (MBox W7 (w.heap.size + 1) ⟨#[]⟩ none 0 0) := hkeep.obj HRU.out (show w.heap.size + 1 ≠ w.heap.size + 2 by omega)
        obtain ⟨d0, d1, _, _⟩ := obj_cells hbox
        obtain ⟨r0, r1, f0, f1⟩ := obj_cells HXR.out
        clear hbox hown hkeep hb HM7 HKS
        generalize hrl2 : R.length = RL at *
        have HRL := Lib.hid hrl2
        clear hrl2
        go_wp2
        refine bodyPost_ret (results_cell_row rfl _ _ (w.heap.size + 1) _ _ _ _ rfl (obj_set2 HXR.out _ _) Tryd.underlying27 rfl (by kernel_rfl)) rfl ?_
        exact ⟨Y7, cp7, by rw [HRL.out], vals_store2 HT7.out HXR.out _ _ _ _, below_set2 HB.out (by omega) _ _⟩

end Go.Proofs.YthcdolkpdbbnkaaDoor
