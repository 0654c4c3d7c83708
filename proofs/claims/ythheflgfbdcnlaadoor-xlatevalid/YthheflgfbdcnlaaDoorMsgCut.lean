/-
  What the document's Copy, Without and Numbers, and others, Without and Set answer: for every message of up to 1000 fields, in every world.
-/
import Derived.Test.YthheflgfbdcnlaaDoorMsgOf
import Derived.Test.YthheflgfbdcnlaaDoorPackSch
import Derived.Test.YthheflgfbdcnlaaDoorPackFld
import Derived.Test.YthheflgfbdcnlaaDoorPackBase
namespace Go.Proofs.YthheflgfbdcnlaaDoor
open Go.RowKit

/-- A message in one block, room for another in a second: what a region keeps. -/
def MCopies (w : World) (m : ByteArray) (A : Option Addr) (len cap : Nat) (u : World) : Prop := Below w.heap.size w u ∧ MBox u w.heap.size m A len cap ∧ ∃ m' X n c, MBox u (w.heap.size + 1) m' X n c
theorem MCopies.below {w : World} {m : ByteArray} {A : Option Addr} {len cap : Nat} {u u' : World} (h : MCopies w m A len cap u) (hb : Below u.heap.size u u') : MCopies w m A len cap u' := by
  obtain ⟨h1, h2, m', X, n, c, h3⟩ := h
  exact ⟨hbt h1 hb, h2.below hb, m', X, n, c, h3.below hb⟩
theorem MCopies.drew {w : World} {m : ByteArray} {A : Option Addr} {len cap : Nat} {u : World} (h : MCopies w m A len cap u) : MCopies w m A len cap u.drew := ⟨h.1.drew, h.2⟩
theorem MCopies.store {w : World} {m : ByteArray} {A : Option Addr} {len cap : Nat} {u : World} (h : MCopies w m A len cap u) (m' : ByteArray) (X : Option Addr) (n c : Nat) : MCopies w m A len cap ((u.setCell ⟨w.heap.size + 1, 0, none⟩ (.string m')).setCell ⟨w.heap.size + 1, 1, none⟩ (.slice X n c)) := by
  obtain ⟨h1, h2, _, _, _, _, h3⟩ := h
  exact ⟨below_set2 h1 (Nat.le_succ _) _ _, obj_set_other h2 (by omega) _ _, m', X, n, c, obj_set2 h3 _ _⟩
theorem mcopies_new (w : World) (m : ByteArray) (A : Option Addr) (len cap : Nat) : MCopies w m A len cap ((w.alloc (.cells #[.string m, .slice A len cap] 32)).alloc (.cells #[.string ⟨#[]⟩, .slice none 0 0] 32)) :=
  ⟨hbt (below_al _ _) (below_al _ _), (mbox_new _ _ _ _ _).below (below_al _ _), _, _, _, _, heap_al _ _ _ (by simp)⟩


set_option maxRecDepth 100000 in
set_option maxHeartbeats 3200000 in
theorem mothers_any (A : Option Addr) (cap : Nat) (l : List Item) (no : Int) (w : World) (hI : Tlvs w A l) (hn : l.length ≤ 1000) :
    Calls Tryd.prog 27 #[.slice A l.length cap, .int .i64 no] w fun e w' => ∃ A' cap', e = .returned (.slice A' (outL no l).length cap') ∧ (outL no l).length ≤ cap' ∧ Tlvs w' A' (outL no l) ∧ Below w.heap.size w w' := by
  obtain ⟨i0, hi, hz0, hz1, hz2⟩ := info_parts Tryd.infoVal
  have HKN := Lib.hid (out_part no l)
  generalize hlen : l.length = len at *
  have HLEN := Lib.hid hlen
  have HI := Lib.hid hI
  clear hlen hI
  go_enter Tryd.func27, Tryd.ntmps27
  go_wp2
  go_loopw [5, 10] (fun y i wr => ∃ k : Nat, k ≤ len ∧ i = .int .i64 (k : Int) ∧ wr.ownsRow w.heap.size 45 2 y (outL no (l.take k)).length (itemsC (outL no (l.take k))) ∧ Below w.heap.size w wr) (fun _ i _ => len - (intOf i).toNat)
  case atStart => exact ⟨0, Nat.zero_le _, rfl, World.ownsRow_nil _ _ _ _, Below.refl _ _⟩
  case round =>
    obtain ⟨k, hk, rfl, hown, hb⟩ := hrel
    have HO := Lib.hid hown
    have HB := Lib.hid hb
    have hbz := hb.size
    clear hown hb
    by_cases hlt : k < len
    · have hkl : k < l.length := by have := HLEN.out; omega
      obtain ⟨a, n, s, rfl, hx, c0, c1⟩ := (HI.out.below HB.out).at_ hkl
      have hst : outL no (l.take (k + 1)) = outL no (l.take k) ++ (if n = no then [] else [(n, s)]) := by rw [take_succ_item hkl, out_snoc, hx]
      have hkn := HKN.out k
      clear hx hkl
      by_cases hz : n = no
      · have tz : (n != no) = false := by simpa using hz
        have HST := Lib.hid (hst.trans (by rw [if_pos hz, List.append_nil] : _ = outL no (l.take k)))
        clear hst hkn hz
        go_wp2
        go_roundw
        case rel => exact ⟨k + 1, by omega, by go_num, by rw [HST.out]; exact HO.out.alloc _, hbt HB.out (below_al _ _)⟩
        case measure => simp [intOf]; omega
      · have tz : (n != no) = true := by simpa using hz
        have HST := Lib.hid (hst.trans (by rw [if_neg hz] : _ = outL no (l.take k) ++ [(n, s)]))
        clear hst hz
        generalize hkl : outL no (l.take k) = kl at *
        clear hkl
        generalize hm : kl.length = m at *
        have HMM := Lib.hid hm
        clear hm
        have HO2 := Lib.hid ((HO.out.alloc (.cells #[.int .i64 n, .string s] 45)).alloc (.cells #[.int .i64 n, .string s] 45))
        clear HO
        go_wp2_with (at_builtin; refine wpList_append_lies _ rfl _ _ _ rfl w.heap.size 45 i0 _ 2 24 Tryd.underlying30 hi hz0 hz1 hz2 rfl (by omega) _ m (itemsC kl) rfl HO2.out ⟨wr.heap.size + 1, 0, none⟩ 1 1 (itemC (n, s)) rfl rfl (World.news_of_block (cs := #[.int .i64 n, .string s]) (t := 45) (fr := (0, 0)) (heap_al _ _ _ (by simp))) (by simp [itemC, Value.oneCell']) (by omega) (by unfold maxLen; omega) (by omega) (by simp; omega) (wr.heap.size + 1 + 1) (by simp) ?_; intro g' cap' w4 hown4 hgrow4 hat4 hlt4)
        have HO4 := Lib.hid hown4
        have HB4 := Lib.hid ((hbt (hbt HB.out (below_al _ _)) (below_al _ _)).grown hgrow4 (by simp; omega) (fun q hq => (HO2.out.lt q hq).1))
        clear hown4 hgrow4 hat4 hlt4
        go_wp2
        go_roundw
        case rel => exact ⟨k + 1, by omega, by go_num, by rw [HST.out, itemsC_snoc, List.length_append, HMM.out]; exact HO4.out, HB4.out⟩
        case measure => simp [intOf]; omega
    · have he : l.take k = l := items_all (by have := HLEN.out; omega)
      have ho1 := HO.out
      rw [he] at ho1
      obtain ⟨A', cap', rfl, hc, ht⟩ := vals_own_cap ho1 rfl
      have HT := Lib.hid ht
      have HCP := Lib.hid hc
      clear ho1 he HO ht hc
      go_wp2
      go_ret
      exact ⟨A', cap', rfl, HCP.out, HT.out, HB.out⟩




end Go.Proofs.YthheflgfbdcnlaaDoor
