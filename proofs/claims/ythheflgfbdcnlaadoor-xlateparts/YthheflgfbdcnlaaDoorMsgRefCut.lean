/-
  What the document's Without and With answer: for every message of up to 1000 fields, in every world.
-/
import Derived.Test.YthheflgfbdcnlaaDoorMsgOf
import Derived.Test.YthheflgfbdcnlaaDoorPackBase
import Derived.Deep.DeepCutAuto
namespace Go.Proofs.YthheflgfbdcnlaaDoor
open Go.RowKit

/-- Of the elder blocks none but g has changed. -/
def KeepX (U : World) (g : Nat) (u : World) : Prop := U.heap.size ≤ u.heap.size ∧ ∀ b, b < U.heap.size → b ≠ g → u.heap[b]? = U.heap[b]?
theorem KeepX.step {U u u' : World} {g : Nat} (h : KeepX U g u) (hb : Below U.heap.size u u') : KeepX U g u' := ⟨Nat.le_trans h.1 hb.size, fun b h1 h2 => (hb.block b h1).trans (h.2 b h1 h2)⟩
theorem KeepX.obj {U u : World} {g b : Nat} {O : Obj} (h : KeepX U g u) (ho : U.heap[b]? = some O) (hne : b ≠ g) : u.heap[b]? = some O := (h.2 b (obj_lt ho) hne).trans ho
theorem KeepX.set {U u : World} {g : Nat} (h : KeepX U g u) (i : Nat) (x : Value) : KeepX U g (u.setCell ⟨g, i, none⟩ x) :=
  ⟨Nat.le_trans h.1 (by simp), fun b h1 h2 => (heap_setCell_other _ _ _ _ h2).trans (h.2 b h1 h2)⟩
theorem KeepX.vals {U u : World} {g : Nat} {A : Option Addr} {l : List Item} {m : ByteArray} {X : Option Addr} {n c : Nat} {t : TypeId} (h : KeepX U g u) (ht : Tlvs U A l) (hg : U.heap[g]? = some (.cells #[.string m, .slice X n c] t)) : Tlvs u A l := by
  intro i hi
  have hap := vals_apart ht (by omega) hg
  obtain ⟨a, ha, h0, h1⟩ := ht i hi
  have hab : (a.add (i * 2)).block = a.block := by unfold Addr.add; split <;> rfl
  have hlt : a.block < U.heap.size := by rw [← hab]; exact block_lt_of_cell h0
  have hc : ∀ q : Addr, q.block = a.block → u.cell? q = U.cell? q := fun q hq => World.cell?_of_block (by rw [hq]; exact h.2 _ hlt (hap a ha))
  exact ⟨a, ha, (hc _ hab).trans h0, (hc ⟨_, (a.add (i * 2)).off + 1, none⟩ hab).trans h1⟩
/-- What the loops keep: the list so far, in the wanted message's block and a row of the call's own. -/
def MWants (w U : World) (g : Nat) (m : ByteArray) (ks : List Item) (u : World) : Prop :=
  ∃ (Y : Option Addr) (cp : Nat), MBox u g m Y ks.length cp ∧ u.ownsRow U.heap.size 45 2 (.slice Y ks.length cp) ks.length (itemsC ks) ∧ KeepX U g u ∧ Below w.heap.size w u
theorem mwants_new {w U : World} {g : Nat} {m : ByteArray} (hg : MBox U g m none 0 0) (hb : Below w.heap.size w U) : MWants w U g m [] U :=
  ⟨none, 0, hg, World.ownsRow_nil _ _ _ _, ⟨Nat.le_refl _, fun _ _ _ => rfl⟩, hb⟩
theorem mwants_put {w U : World} {g : Nat} {m : ByteArray} {ks : List Item} {n : Int} {s : ByteArray} {g' cap' M : Nat} {u : World} {Y : Option Addr} {cp : Nat} (hg : g < U.heap.size) (hw : w.heap.size ≤ g) (hM : ks.length = M) (hx : MBox u g m Y M cp)
    (ho : u.ownsRow U.heap.size 45 2 (.slice (some ⟨g', 0, none⟩) (M + 1) cap') (M + 1) (itemsC ks ++ itemC (n, s))) (hk : KeepX U g u) (hb : Below w.heap.size w u) :
    MWants w U g m (ks ++ [(n, s)]) (u.setCell ⟨g, 1, none⟩ (.slice (some ⟨g', 0, none⟩) (M + 1) cap')) := by
  refine ⟨some ⟨g', 0, none⟩, cap', ?_, ?_, hk.set _ _, hb.setCell (p := ⟨g, 1, none⟩) hw _⟩
  · rw [List.length_append, hM]; exact heap_setCell_same _ g 1 _ _ _ hx
  · rw [itemsC_snoc, List.length_append, hM]; exact owns_set1 ho hg _ _

set_option maxRecDepth 100000 in
set_option maxHeartbeats 6400000 in
theorem mrwithout_any (m : ByteArray) (A : Option Addr) (cap : Nat) (l : List Item) (no : Int) (w : World) (hI : Tlvs w A l) (hn : l.length ≤ 1000) :
    Calls Tryd.prog 11 #[.agg #[.string m, .slice A l.length cap], .int .i64 no] w fun e w' => ∃ A' cap', e = .returned (.agg #[.string m, .slice A' (outL no l).length cap']) ∧ Tlvs w' A' (outL no l) ∧ Below w.heap.size w w' := by
  obtain ⟨i0, hi, hz0, hz1, hz2⟩ := info_parts Tryd.infoVal
  have HKN := Lib.hid (out_part no l)
  generalize hlen : l.length = len at *
  have HLEN := Lib.hid hlen
  have HBU := Lib.hid (hbt (hbt (below_al w (.cells #[.string m, .slice A len cap] 32)) (below_al _ (.cells #[.string ⟨#[]⟩, .slice none 0 0] 32))) (below_al _ (.cells #[.string m, .slice none 0 0] 32)))
  have HXU := Lib.hid (((mbox_new w m A len cap).below (below_al _ (.cells #[.string ⟨#[]⟩, .slice none 0 0] 32))).below (below_al _ (.cells #[.string m, .slice none 0 0] 32)))
  have HRU : Hid (MBox (((w.alloc (.cells #[.string m, .slice A len cap] 32)).alloc (.cells #[.string ⟨#[]⟩, .slice none 0 0] 32)).alloc (.cells #[.string m, .slice none 0 0] 32)) (w.heap.size + 1) ⟨#[]⟩ none 0 0) := obj_below (heap_al _ _ _ (by simp)) (below_al _ _)
  have HGO : Hid (MBox (((w.alloc (.cells #[.string m, .slice A len cap] 32)).alloc (.cells #[.string ⟨#[]⟩, .slice none 0 0] 32)).alloc (.cells #[.string m, .slice none 0 0] 32)) (w.heap.size + 2) m none 0 0) := heap_al _ _ _ (by simp)
  have HTU := Lib.hid (hI.below HBU.out)
  have HWU : Hid (w.heap.size ≤ (((w.alloc (.cells #[.string m, .slice A len cap] 32)).alloc (.cells #[.string ⟨#[]⟩, .slice none 0 0] 32)).alloc (.cells #[.string m, .slice none 0 0] 32)).heap.size) := HBU.out.size
  have HGU := Lib.hid (obj_lt HGO.out)
  have HNE : Hid (w.heap.size ≠ w.heap.size + 2) := by show _ ≠ _; omega
  clear hlen hI
  go_enter Tryd.func11, Tryd.ntmps11
  go_wp2_with fail
  generalize ((w.alloc (.cells #[.string m, .slice A len cap] 32)).alloc (.cells #[.string ⟨#[]⟩, .slice none 0 0] 32)).alloc (.cells #[.string m, .slice none 0 0] 32) = U at *
  go_loopw [6] (fun i wr => ∃ k : Nat, k ≤ len ∧ i = .int .i64 (k : Int) ∧ MWants w U (w.heap.size + 2) m (outL no (l.take k)) wr) (fun i _ => len - (intOf i).toNat)
  case atStart => exact ⟨0, Nat.zero_le _, rfl, mwants_new HGO.out HBU.out⟩
  case round =>
    obtain ⟨k, hk, rfl, Y, cp, hbox, hown, hkeep, hb⟩ := hrel
    have HX := Lib.hid hbox
    have HO := Lib.hid hown
    have HK := Lib.hid hkeep
    have HB := Lib.hid hb
    have HXI : Hid (MBox wr w.heap.size m A len cap) := hkeep.obj HXU.out HNE.out
    have HT := Lib.hid (hkeep.vals HTU.out HGO.out)
    obtain ⟨x0, x1, _, _⟩ := obj_cells hbox
    obtain ⟨x2, x3, _, _⟩ := obj_cells HXI.out
    clear hown hbox hb hkeep
    by_cases hlt : k < len
    · have hkl : k < l.length := by have := HLEN.out; omega
      obtain ⟨a, n, s, rfl, hx, c0, c1⟩ := HT.out.at_ hkl
      have hst : outL no (l.take (k + 1)) = outL no (l.take k) ++ (if n = no then [] else [(n, s)]) := by rw [take_succ_item hkl, out_snoc, hx]
      have hkn := HKN.out k
      have HIT := Lib.hid hx
      have HKL := Lib.hid hkl
      clear hx hkl
      by_cases hz : n = no
      · have tz : (n != no) = false := by simpa using hz
        have HST := Lib.hid (hst.trans (by rw [if_pos hz, List.append_nil] : _ = outL no (l.take k)))
        clear hst hkn hz
        go_wp2
        go_roundw
        case rel => exact ⟨k + 1, by omega, by go_num, by rw [HST.out]; exact ⟨Y, cp, HX.out, HO.out, HK.out, HB.out⟩⟩
        case measure => simp [intOf]; omega
      · have tz : (n != no) = true := by simpa using hz
        have HST := Lib.hid (hst.trans (by rw [if_neg hz] : _ = outL no (l.take k) ++ [(n, s)]))
        clear hst hz
        generalize hkl : outL no (l.take k) = ks at *
        clear hkl
        generalize hm : ks.length = M at *
        have HMM := Lib.hid hm
        clear hm
        go_wp2_with fail
        clear x0 x1 x2 x3
        refine wp_region_noPanic ?_
        refine wp_region_late (fun u => MBox u (w.heap.size + 2) m Y M cp ∧ MBox u w.heap.size m (some a) len cap ∧ u.cell? (a.add (k * 2)) = some (.int .i64 n) ∧ u.cell? ⟨(a.add (k * 2)).block, (a.add (k * 2)).off + 1, none⟩ = some (.string s)) 10 (by kernel_rfl) ((show MBox wr (w.heap.size + 2) m Y M cp ∧ MBox wr w.heap.size m (some a) len cap ∧ wr.cell? (a.add (k * 2)) = some (.int .i64 n) ∧ wr.cell? ⟨(a.add (k * 2)).block, (a.add (k * 2)).off + 1, none⟩ = some (.string s) from ⟨HX.out, HXI.out, c0, c1⟩)) (fun hT => ?_)
        refine lv 0 (v := ?_) (fun u hu => ?_) hT ?_
        rotate_left
        · ((rcases hu with ⟨hu1, hu2, q0, q1⟩; obtain ⟨b0, b1, _, _⟩ := obj_cells hu1; obtain ⟨b2, b3, _, _⟩ := obj_cells hu2; clear hu1 hu2); go_simp; try (with_reducible rfl))
        try simp only [puts]
        refine lv 1 (v := ?_) (fun u hu => ?_) hT ?_
        rotate_left
        · ((rcases hu with ⟨hu1, hu2, q0, q1⟩; obtain ⟨b0, b1, _, _⟩ := obj_cells hu1; obtain ⟨b2, b3, _, _⟩ := obj_cells hu2; clear hu1 hu2); go_simp; try (with_reducible rfl))
        try simp only [puts]
        refine lv 2 (v := ?_) (fun u hu => ?_) hT ?_
        rotate_left
        · ((rcases hu with ⟨hu1, hu2, q0, q1⟩; obtain ⟨b0, b1, _, _⟩ := obj_cells hu1; obtain ⟨b2, b3, _, _⟩ := obj_cells hu2; clear hu1 hu2); go_simp; try (with_reducible rfl))
        try simp only [puts]
        refine lv 3 (v := ?_) (fun u hu => ?_) hT ?_
        rotate_left
        · ((rcases hu with ⟨hu1, hu2, q0, q1⟩; obtain ⟨b0, b1, _, _⟩ := obj_cells hu1; obtain ⟨b2, b3, _, _⟩ := obj_cells hu2; clear hu1 hu2); go_simp; try (with_reducible rfl))
        try simp only [puts]
        refine lv 4 (v := ?_) (fun u hu => ?_) hT ?_
        rotate_left
        · ((rcases hu with ⟨hu1, hu2, q0, q1⟩; obtain ⟨b0, b1, _, _⟩ := obj_cells hu1; obtain ⟨b2, b3, _, _⟩ := obj_cells hu2; clear hu1 hu2); go_simp; try (with_reducible rfl))
        try simp only [puts]
        refine lv 5 (v := ?_) (fun u hu => ?_) hT ?_
        rotate_left
        · ((rcases hu with ⟨hu1, hu2, q0, q1⟩; obtain ⟨b0, b1, _, _⟩ := obj_cells hu1; obtain ⟨b2, b3, _, _⟩ := obj_cells hu2; clear hu1 hu2); go_simp; try (with_reducible rfl))
        try simp only [puts]
        refine lv 6 (v := ?_) (fun u hu => ?_) hT ?_
        rotate_left
        · ((rcases hu with ⟨hu1, hu2, q0, q1⟩; obtain ⟨b0, b1, _, _⟩ := obj_cells hu1; obtain ⟨b2, b3, _, _⟩ := obj_cells hu2; clear hu1 hu2); go_simp; try (with_reducible rfl))
        try simp only [puts]
        refine late_lone (i := 7) rfl (by kernel_rfl) (by rfl) (fun K hK => ?_)
        go_simp
        refine hK.out _ _ (⟨HX.out.below (below_al wr (.cells #[.int .i64 n, .string s] 45)).drew, HXI.out.below (below_al wr (.cells #[.int .i64 n, .string s] 45)).drew, ((below_al wr (.cells #[.int .i64 n, .string s] 45)).cell (block_lt_of_cell c0)).trans c0, ((below_al wr (.cells #[.int .i64 n, .string s] 45)).cell (block_lt_of_cell c1)).trans c1⟩) ?_
        clear hK
        try simp only [puts]
        refine late_lone (i := 8) rfl (by kernel_rfl) (by rfl) (fun K hK => ?_)
        refine wp_append_lies _ _ _ _ (by rfl) U.heap.size 45 i0 _ 2 24 Tryd.underlying30 hi hz0 hz1 hz2 rfl (by omega) (.slice Y M cp) M (itemsC ks) (by rfl) ((HO.out.alloc _).drew) ⟨wr.heap.size, 0, none⟩ 1 1 (itemC (n, s)) (by rfl) (by rfl) (World.news_of_block (cs := #[.int .i64 n, .string s]) (t := 45) (fr := (0, 0)) (heap_alloc_new wr _)) (by simp [itemC, Value.oneCell']) (by omega) (by unfold maxLen; omega) (by omega) (by have := HK.out.1; simp; omega) (wr.heap.size + 1) (by simp) ?_
        intro g' cap' w6 hown6 hgrow6 hat6 hlt6
        have hbB : Below U.heap.size wr w6 := (((Below.refl _ _).alloc HK.out.1 _).drew).grown hgrow6 (by have := HK.out.1; simp; omega) (fun q hq => (HO.out.lt q hq).1)
        have HO6 := Lib.hid hown6
        have HK6 := Lib.hid (HK.out.step hbB)
        have HX6 : Hid (MBox w6 (w.heap.size + 2) m Y M cp) := (hbB.block _ HGU.out).trans HX.out
        have HXI6 : Hid (MBox w6 w.heap.size m (some a) len cap) := HK6.out.obj HXU.out HNE.out
        have HB6 := Lib.hid (HB.out.trans (hbB.mono HWU.out))
        have HT6 := Lib.hid (HK6.out.vals HTU.out HGO.out)
        obtain ⟨_, n6, s6, e6, hx6, y0, y1⟩ := HT6.out.at_ HKL.out
        injection e6 with e6
        subst e6
        rw [HIT.out] at hx6
        simp only [Prod.mk.injEq] at hx6
        obtain ⟨rfl, rfl⟩ := hx6
        clear hown6 hgrow6 hat6 hlt6 hbB
        refine hK.out _ _ (⟨HX6.out, HXI6.out, y0, y1⟩) ?_
        clear hK
        try simp only [puts]
        clear hT
        have hT : MBox w6 (w.heap.size + 2) m Y M cp ∧ MBox w6 w.heap.size m (some a) len cap ∧ w6.cell? (a.add (k * 2)) = some (.int .i64 n) ∧ w6.cell? ⟨(a.add (k * 2)).block, (a.add (k * 2)).off + 1, none⟩ = some (.string s) := ⟨HX6.out, HXI6.out, y0, y1⟩
        refine lv 9 (v := ?_) (fun u hu => ?_) hT ?_
        rotate_left
        · ((rcases hu with ⟨hu1, hu2, q0, q1⟩; obtain ⟨b0, b1, _, _⟩ := obj_cells hu1; obtain ⟨b2, b3, _, _⟩ := obj_cells hu2; clear hu1 hu2); go_simp; try (with_reducible rfl))
        try simp only [puts]
        refine late_only rfl (by kernel_rfl) (by rfl) (fun K hK => ?_)
        obtain ⟨j0, j1, f0, f1⟩ := obj_cells HX6.out
        go_simp
        refine hK.out _ _ ?_
        clear hK
        try simp only [puts]
        refine late_done (by kernel_rfl) (NoPanic.normal ?_) _
        clear hT j0 j1 f0 f1 y0 y1 c0 c1
        go_wp2
        go_roundw
        case rel => exact ⟨k + 1, by omega, by go_num, by rw [HST.out]; exact mwants_put HGU.out (Nat.le_add_right _ _) HMM.out HX6.out HO6.out HK6.out HB6.out⟩
        case measure => simp [intOf]; omega
    · have he : l.take k = l := items_all (by have := HLEN.out; omega)
      have ho1 := HO.out
      have hx1 := HX.out
      rw [he] at ho1 hx1
      have HT1 := Lib.hid (vals_own_at ho1 rfl)
      have HXR : Hid (MBox wr (w.heap.size + 1) ⟨#[]⟩ none 0 0) := HK.out.obj HRU.out (show w.heap.size + 1 ≠ w.heap.size + 2 by omega)
      obtain ⟨d0, d1, _, _⟩ := obj_cells hx1
      obtain ⟨r0, r1, f0, f1⟩ := obj_cells HXR.out
      clear ho1 hx1 he HO x0 x1 HX
      generalize hrn : (outL no l).length = rn at *
      have HRN := Lib.hid hrn
      clear hrn
      go_wp2
      refine bodyPost_ret (results_cell_row rfl _ _ (w.heap.size + 1) _ _ _ _ rfl (obj_set2 HXR.out _ _) Tryd.underlying32 rfl (by kernel_rfl)) rfl ?_
      exact ⟨Y, cp, by rw [HRN.out], vals_store2 HT1.out HXR.out _ _ _ _, below_set2 HB.out (by omega) _ _⟩


end Go.Proofs.YthheflgfbdcnlaaDoor
