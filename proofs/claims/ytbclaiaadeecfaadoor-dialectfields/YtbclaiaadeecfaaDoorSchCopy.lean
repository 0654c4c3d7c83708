/-
  What the document's Copy and Restrict answer: for every schema of up to 1000 specs, in every world.
-/
import Derived.Test.YtbclaiaadeecfaaDoorSchOf
import Derived.Test.YtbclaiaadeecfaaDoorFldSet
import Derived.Test.YtbclaiaadeecfaaDoorRegHeld
namespace Go.Proofs.YtbclaiaadeecfaaDoor
open Go.RowKit

/-- A schema in one block, room for another in a second: what a region keeps. -/
def Copies (w : World) (st v : Int) (A : Option Addr) (len cap : Nat) (u : World) : Prop := Below w.heap.size w u ∧ Box u w.heap.size st v A len cap ∧ ∃ a b c, u.heap[w.heap.size + 1]? = some (.cells #[a, b, c] 24)
theorem Copies.below {w : World} {st v : Int} {A : Option Addr} {len cap : Nat} {u u' : World} (h : Copies w st v A len cap u) (hb : Below u.heap.size u u') : Copies w st v A len cap u' := by
  obtain ⟨h1, h2, a, b, c, h3⟩ := h
  exact ⟨hbt h1 hb, h2.below hb, a, b, c, obj_below h3 hb⟩
theorem Copies.drew {w : World} {st v : Int} {A : Option Addr} {len cap : Nat} {u : World} (h : Copies w st v A len cap u) : Copies w st v A len cap u.drew := ⟨h.1.drew, h.2.1, h.2.2⟩
theorem Copies.store {w : World} {st v : Int} {A : Option Addr} {len cap : Nat} {u : World} (h : Copies w st v A len cap u) (x y z : Value) : Copies w st v A len cap (((u.setCell ⟨w.heap.size + 1, 0, none⟩ x).setCell ⟨w.heap.size + 1, 1, none⟩ y).setCell ⟨w.heap.size + 1, 2, none⟩ z) := by
  obtain ⟨h1, h2, a, b, c, h3⟩ := h
  refine ⟨below_set3 h1 (by omega) _ _ _, ?_, x, y, z, obj_set3 h3 x y z⟩
  unfold Box
  rw [heap_setCell_other _ _ _ _ (by simp), heap_setCell_other _ _ _ _ (by simp), heap_setCell_other _ _ _ _ (by simp)]
  exact h2
theorem copies_new (w : World) (st v : Int) (A : Option Addr) (len cap : Nat) : Copies w st v A len cap ((w.alloc (.cells #[.int .i64 st, .int .i64 v, .slice A len cap] 24)).alloc (.cells #[.int .i64 0, .int .i64 0, .slice none 0 0] 24)) :=
  ⟨hbt (below_al _ _) (below_al _ _), (box_new _ _ _ _ _ _).below (below_al _ _), _, _, _, heap_al _ _ _ (by simp)⟩
theorem spl_set3 {w : World} {A : Option Addr} {l : List Sp} {p : Nat} (h : Spl w A l) (hp : ∀ a, A = some a → a.block ≠ p) (x y z : Value) : Spl (((w.setCell ⟨p, 0, none⟩ x).setCell ⟨p, 1, none⟩ y).setCell ⟨p, 2, none⟩ z) A l := by
  intro i hi
  obtain ⟨a, ha, h0, h1, h2, h3, h4⟩ := h i hi
  have hab : (a.add (i * 5)).block = a.block := by unfold Addr.add; split <;> rfl
  have hc : ∀ q : Addr, q.block = a.block → (((w.setCell ⟨p, 0, none⟩ x).setCell ⟨p, 1, none⟩ y).setCell ⟨p, 2, none⟩ z).cell? q = w.cell? q := fun q hq => World.cell?_of_block (by
    have hne : q.block ≠ p := by rw [hq]; exact hp a ha
    rw [heap_setCell_other _ _ _ _ hne, heap_setCell_other _ _ _ _ hne, heap_setCell_other _ _ _ _ hne])
  exact ⟨a, ha, (hc _ hab).trans h0, (hc ⟨_, (a.add (i * 5)).off + 1, none⟩ hab).trans h1, (hc ⟨_, (a.add (i * 5)).off + 2, none⟩ hab).trans h2, (hc ⟨_, (a.add (i * 5)).off + 3, none⟩ hab).trans h3, (hc ⟨_, (a.add (i * 5)).off + 4, none⟩ hab).trans h4⟩
/-- A slice of specs lies in no block of three cells: a store into one leaves it. -/
theorem spl_store3 {w : World} {A : Option Addr} {l : List Sp} {p : Nat} {a b c : Value} {t : TypeId} (h : Spl w A l) (hg : w.heap[p]? = some (.cells #[a, b, c] t)) (x y z : Value) : Spl (((w.setCell ⟨p, 0, none⟩ x).setCell ⟨p, 1, none⟩ y).setCell ⟨p, 2, none⟩ z) A l := by
  by_cases h0 : l.length = 0
  · intro i hi; omega
  · refine spl_set3 h (fun q hq e => ?_) x y z
    obtain ⟨a', ha, _, _, _, _, h4⟩ := h 0 (by omega)
    rw [hq] at ha
    injection ha with ha
    subst ha
    have hz : (q.add (0 * 5)) = q := by simp [Addr.add]
    rw [hz, e, cell_of_row _ _ _ _ _ _ hg] at h4
    simp at h4
theorem sowns_set3 {w : World} {base e size n p : Nat} {v : Value} {xs : List Value} (h : w.ownsRow base e size v n xs) (hp : p < base) (x y z : Value) : (((w.setCell ⟨p, 0, none⟩ x).setCell ⟨p, 1, none⟩ y).setCell ⟨p, 2, none⟩ z).ownsRow base e size v n xs := by
  refine ⟨h.1, ?_⟩
  rcases h.2 with h1 | ⟨g', cap, cur, h1, h2, h3, h4⟩
  · exact .inl h1
  · refine .inr ⟨g', cap, cur, h1, h2, ?_, h4⟩
    have hne : g' ≠ p := by omega
    rw [heap_setCell_other _ _ _ _ hne, heap_setCell_other _ _ _ _ hne, heap_setCell_other _ _ _ _ hne]
    exact h3
theorem sowns_set1 {w : World} {base e size n p : Nat} {v : Value} {xs : List Value} (h : w.ownsRow base e size v n xs) (hp : p < base) (i : Nat) (x : Value) : (w.setCell ⟨p, i, none⟩ x).ownsRow base e size v n xs := by
  refine ⟨h.1, ?_⟩
  rcases h.2 with h1 | ⟨g', cap, cur, h1, h2, h3, h4⟩
  · exact .inl h1
  · refine .inr ⟨g', cap, cur, h1, h2, ?_, h4⟩
    rw [heap_setCell_other _ _ _ _ (show g' ≠ p by omega)]
    exact h3
theorem spl_own_at {w : World} {base n cap : Nat} {A : Option Addr} {l : List Sp} (h : w.ownsRow base 28 5 (.slice A n cap) n (spsC l)) (hn : n = l.length) : Spl w A l := by
  obtain ⟨A', c', hv, ht⟩ := spl_own h hn
  injection hv with h1 h2 h3
  subst h1
  exact ht


set_option maxRecDepth 100000 in
set_option maxHeartbeats 3200000 in
theorem srestrict_any (st v : Int) (A : Option Addr) (cap : Nat) (l : List Sp) (h lw : Nat) (w : World) (hI : Spl w A l) (hn : l.length ≤ 1000) (b1 : h < M64) (b2 : lw < M64) :
    Calls Tryd.prog 13 #[.agg #[.int .i64 st, .int .i64 v, .slice A l.length cap], setV h lw] w fun e w' => ∃ A' cap', e = .returned (.agg #[.int .i64 st, .int .i64 v, .slice A' (keepL h lw l).length cap']) ∧ Spl w' A' (keepL h lw l) ∧ Below w.heap.size w w' := by
  obtain ⟨i0, hi, hz0, hz1, hz2⟩ := info_parts Tryd.infoSpec
  have HH := Lib.hid (fun (n : Int) W => has_any h lw n W b1 b2)
  clear b1 b2
  unfold setV at *
  have HKN := Lib.hid (keep_part h lw l)
  generalize hlen : l.length = len at *
  have HLEN := Lib.hid hlen
  clear hlen
  have hB0 : Below w.heap.size w (((w.alloc (.cells #[.int .i64 st, .int .i64 v, .slice A len cap] 24)).alloc (.cells #[.int .u64 (h : Int), .int .u64 (lw : Int)] 41)).alloc (.cells #[.int .i64 0, .int .i64 0, .slice none 0 0] 24)) := hbt (hbt (below_al _ _) (below_al _ _)) (below_al _ _)
  have HX := Lib.hid (((box_new w st v A len cap).below (below_al _ (.cells #[.int .u64 (h : Int), .int .u64 (lw : Int)] 41))).below (below_al _ (.cells #[.int .i64 0, .int .i64 0, .slice none 0 0] 24)))
  have HS0 : Hid ((((w.alloc (.cells #[.int .i64 st, .int .i64 v, .slice A len cap] 24)).alloc (.cells #[.int .u64 (h : Int), .int .u64 (lw : Int)] 41)).alloc (.cells #[.int .i64 0, .int .i64 0, .slice none 0 0] 24)).heap[w.heap.size + 1]? = some (.cells #[.int .u64 (h : Int), .int .u64 (lw : Int)] 41)) := obj_below (heap_al _ _ _ (by simp)) (below_al _ _)
  have HM0 : Hid ((((w.alloc (.cells #[.int .i64 st, .int .i64 v, .slice A len cap] 24)).alloc (.cells #[.int .u64 (h : Int), .int .u64 (lw : Int)] 41)).alloc (.cells #[.int .i64 0, .int .i64 0, .slice none 0 0] 24)).heap[w.heap.size + 2]? = some (.cells #[.int .i64 0, .int .i64 0, .slice none 0 0] 24)) := heap_al _ _ _ (by simp)
  have HB0 := Lib.hid hB0
  have HI := Lib.hid (hI.below hB0)
  clear hI hB0
  go_enter Tryd.func13, Tryd.ntmps13
  go_wp2_with fail
  generalize ((w.alloc (.cells #[.int .i64 st, .int .i64 v, .slice A len cap] 24)).alloc (.cells #[.int .u64 (h : Int), .int .u64 (lw : Int)] 41)).alloc (.cells #[.int .i64 0, .int .i64 0, .slice none 0 0] 24) = U at *
  go_loopw [5, 11] (fun y i wr => ∃ k : Nat, k ≤ len ∧ i = .int .i64 (k : Int) ∧ wr.ownsRow U.heap.size 28 5 y (keepL h lw (l.take k)).length (spsC (keepL h lw (l.take k))) ∧ Below U.heap.size U wr) (fun _ i _ => len - (intOf i).toNat)
  case atStart => exact ⟨0, Nat.zero_le _, rfl, World.ownsRow_nil _ _ _ _, Below.refl _ _⟩
  case round =>
    obtain ⟨k, hk, rfl, hown, hb⟩ := hrel
    have HO := Lib.hid hown
    have HB := Lib.hid hb
    clear hown hb
    by_cases hlt : k < len
    · have hkl : k < l.length := by have := HLEN.out; omega
      obtain ⟨a, n, c, f, lo, hi', rfl, hx, c0, c1, c2, c3, c4⟩ := (HI.out.below HB.out).at_ hkl
      have hst : keepL h lw (l.take (k + 1)) = keepL h lw (l.take k) ++ (if hasN h lw n = true then [(n, c, f, lo, hi')] else []) := by rw [take_sp hkl, keep_snoc, hx]
      have hkn := HKN.out k
      obtain ⟨e0, e1, _, _⟩ := obj_cells (obj_below (obj_below HS0.out HB.out) (below_al wr (.cells #[.int .i64 n, .int .i64 c, .int .i64 f, .int .i64 lo, .int .i64 hi'] 28)))
      have hs1 := obj_lt (obj_below HS0.out HB.out)
      have HB1 := Lib.hid (hbt HB.out (below_al wr (.cells #[.int .i64 n, .int .i64 c, .int .i64 f, .int .i64 lo, .int .i64 hi'] 28)))
      have HO1 := Lib.hid (HO.out.alloc (.cells #[.int .i64 n, .int .i64 c, .int .i64 f, .int .i64 lo, .int .i64 hi'] 28))
      have HC := Lib.hid (fun W => HH.out n W)
      generalize hasN h lw n = r at *
      clear hx hkl HO
      cases r
      · have HST := Lib.hid (hst.trans (by simp : _ = keepL h lw (l.take k)))
        clear hst hkn
        go_wp2_with fail
        refine (HC.out _).mono ?_
        rintro e w1 ⟨rfl, hb1⟩
        have HB2 := Lib.hid (hbt HB1.out hb1)
        have HO2 := Lib.hid (sowns_below HO1.out hb1)
        clear hb1 e0 e1 c0 c1 c2 c3 c4
        go_wp2
        go_roundw
        case rel => exact ⟨k + 1, by omega, by go_num, by rw [HST.out]; exact HO2.out, HB2.out⟩
        case measure => simp [intOf]; omega
      · have HST := Lib.hid (hst.trans (by simp : _ = keepL h lw (l.take k) ++ [(n, c, f, lo, hi')]))
        clear hst
        generalize hkl : keepL h lw (l.take k) = kl at *
        clear hkl
        generalize hm : kl.length = m at *
        have HMM := Lib.hid hm
        clear hm
        go_wp2_with fail
        refine (HC.out _).mono ?_
        rintro e w1 ⟨rfl, hb1⟩
        have HB2 := Lib.hid (hbt HB1.out hb1)
        have HO2 := Lib.hid ((sowns_below HO1.out hb1).alloc (.cells #[.int .i64 n, .int .i64 c, .int .i64 f, .int .i64 lo, .int .i64 hi'] 28))
        obtain ⟨d0, d1, d2, d3, d4⟩ := obj_cells5 (obj_below (heap_alloc_new wr (.cells #[.int .i64 n, .int .i64 c, .int .i64 f, .int .i64 lo, .int .i64 hi'] 28)) hb1)
        have hw1 := HB2.out.size
        clear hb1 e0 e1 c0 c1 c2 c3 c4
        go_wp2_with (at_builtin; refine wpList_append_lies _ rfl _ _ _ rfl U.heap.size 28 i0 _ 5 40 Tryd.underlying22 hi hz0 hz1 hz2 rfl (by omega) _ m (spsC kl) rfl HO2.out ⟨w1.heap.size, 0, none⟩ 1 1 (spC (n, c, f, lo, hi')) rfl rfl (World.news_of_block (cs := #[.int .i64 n, .int .i64 c, .int .i64 f, .int .i64 lo, .int .i64 hi']) (t := 28) (fr := (0, 0)) (heap_alloc_new w1 _)) (by simp [spC, Value.oneCell']) (by omega) (by unfold maxLen; omega) (by omega) (by simp; omega) (w1.heap.size + 1) (by simp) ?_; intro g' cap' w4 hown4 hgrow4 hat4 hlt4)
        have HO4 := Lib.hid hown4
        have HB4 := Lib.hid ((hbt HB2.out (below_al _ _)).grown hgrow4 (by simp; omega) (fun q hq => (HO2.out.lt q hq).1))
        clear hown4 hgrow4 hat4 hlt4
        go_wp2
        go_roundw
        case rel => exact ⟨k + 1, by omega, by go_num, by rw [HST.out, spsC_snoc, List.length_append, HMM.out]; exact HO4.out, HB4.out⟩
        case measure => simp [intOf]; omega
    · have he : l.take k = l := List.take_of_length_le (by have := HLEN.out; omega)
      have ho1 := HO.out
      rw [he] at ho1
      have HO1 := Lib.hid ho1
      clear ho1
      obtain ⟨A', cap', rfl, _⟩ := spl_own HO1.out rfl
      obtain ⟨b0, b1, b2⟩ := obj_cells3 (HX.out.below HB.out)
      have hm := obj_below HM0.out HB.out
      have HM := Lib.hid hm
      obtain ⟨d0, d1, d2⟩ := obj_cells3 hm
      obtain ⟨f0, f1, f2⟩ := obj_warm3 hm
      have HBW := Lib.hid (hbt HB0.out HB.out)
      have HUZ := Lib.hid (obj_lt HM0.out)
      generalize hkl : keepL h lw l = kl at *
      generalize hmm : kl.length = m at *
      have HMM := Lib.hid hmm
      have HKL := Lib.hid hkl
      clear he hm HO hmm hkl
      go_wp2
      refine bodyPost_ret (results_cell_row rfl _ _ (w.heap.size + 2) _ _ _ _ rfl (obj_set3 HM.out _ _ _) Tryd.underlying24 rfl (by kernel_rfl)) rfl ?_
      exact ⟨A', cap', by rw [HKL.out, HMM.out], by rw [HKL.out]; exact spl_own_at (sowns_set3 HO1.out HUZ.out _ _ _) HMM.out.symm, below_set3 HBW.out (by omega) _ _ _⟩

end Go.Proofs.YtbclaiaadeecfaaDoor
