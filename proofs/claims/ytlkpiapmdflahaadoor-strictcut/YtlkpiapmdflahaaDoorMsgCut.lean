/-
  What the document's Copy, Without and Numbers, and others, Without and Set answer: for every message of up to 1000 fields, in every world.
-/
import Derived.Test.YtlkpiapmdflahaaDoorMsgOf
import Derived.Test.YtlkpiapmdflahaaDoorPackSch
import Derived.Test.YtlkpiapmdflahaaDoorPackFld
import Derived.Test.YtlkpiapmdflahaaDoorPackBase
namespace Go.Proofs.YtlkpiapmdflahaaDoor
open Go.RowKit

/-- A message in one block, room for another in a second: what a region keeps. -/
def MCopies (w : World) (m : ByteArray) (A : Option Addr) (len cap : Nat) (u : World) : Prop := Below w.heap.size w u ∧ MBox u w.heap.size m A len cap ∧ ∃ m' X n c, MBox u (w.heap.size + 1) m' X n c
theorem MCopies.below {w : World} {m : ByteArray} {A : Option Addr} {len cap : Nat} {u u' : World} (h : MCopies w m A len cap u) (hb : Below u.heap.size u u') : MCopies w m A len cap u' := by
  obtain ⟨h1, h2, m', X, n, c, h3⟩ := h
  exact ⟨hbt h1 hb, h2.below hb, m', X, n, c, h3.below hb⟩
theorem MCopies.drew {w : World} {m : ByteArray} {A : Option Addr} {len cap : Nat} {u : World} (h : MCopies w m A len cap u) : MCopies w m A len cap u.drew := ⟨h.1.drew, h.2⟩
theorem MCopies.store {w : World} {m : ByteArray} {A : Option Addr} {len cap : Nat} {u : World} (h : MCopies w m A len cap u) (m' : ByteArray) (X : Option Addr) (n c : Nat) : MCopies w m A len cap ((u.setCell ⟨w.heap.size + 1, 0, none⟩ (.string m')).setCell ⟨w.heap.size + 1, 1, none⟩ (.slice X n c)) := by
  obtain ⟨h1, h2, _, _, _, _, h3⟩ := h
  exact ⟨below_set2 h1 (Nat.le_succ _) _ _, obj_set_other h2 (by omega) _ _, m', X, n, c, obj_set2 h3 _ _⟩
theorem mcopies_new (w : World) (m : ByteArray) (A : Option Addr) (len cap : Nat) : MCopies w m A len cap ((w.alloc (.cells #[.string m, .slice A len cap] 28)).alloc (.cells #[.string ⟨#[]⟩, .slice none 0 0] 28)) :=
  ⟨hbt (below_al _ _) (below_al _ _), (mbox_new _ _ _ _ _).below (below_al _ _), _, _, _, _, heap_al _ _ _ (by simp)⟩




set_option maxRecDepth 100000 in
set_option maxHeartbeats 3200000 in
theorem mset_any (m : ByteArray) (A : Option Addr) (cap : Nat) (l : List Item) (w : World) (hI : Tlvs w A l) (hn : l.length ≤ 1000) :
    Calls Tryd.prog 29 #[.agg #[.string m, .slice A l.length cap]] w fun e w' => e = .returned (setV (ofH (tagsOf l)) (ofL (tagsOf l))) ∧ Below w.heap.size w w' := by
  have HI := Lib.hid hI
  clear hI
  have HW := Lib.hid (fun (k : Nat) (n : Int) W => with_any (ofH (tagsOf (l.take k))) (ofL (tagsOf (l.take k))) n W (of_lt _).1 (of_lt _).2)
  unfold setV at HW
  generalize hlen : l.length = len at *
  have HLEN := Lib.hid hlen
  clear hlen
  go_enter Tryd.func29, Tryd.ntmps29
  go_wp2
  go_loopw [9] (fun i wr => ∃ k : Nat, k ≤ len ∧ i = .int .i64 (k : Int) ∧ wr.heap[w.heap.size + 2]? = some (setO (ofH (tagsOf (l.take k))) (ofL (tagsOf (l.take k)))) ∧ wr.heap[w.heap.size + 1]? = some (setO 0 0) ∧ Below w.heap.size w wr) (fun i _ => len - (intOf i).toNat)
  case atStart => exact ⟨0, Nat.zero_le _, rfl, heap_al _ _ _ (by simp), obj_below (heap_al _ _ _ (by simp)) (below_al _ _), hbt (hbt (below_al _ _) (below_al _ _)) (below_al _ _)⟩
  case round =>
    obtain ⟨k, hk, rfl, h1, h0, hb⟩ := hrel
    by_cases hlt : k < len
    · have hkl : k < l.length := by have := HLEN.out; omega
      obtain ⟨a, n, s, rfl, hx, c0, c1⟩ := (HI.out.below hb).at_ hkl
      have ho := of_tags hkl
      rw [hx] at ho
      dsimp only at ho
      have hw := HW.out k n
      generalize ofH (tagsOf (l.take k)) = x at *
      generalize ofL (tagsOf (l.take k)) = y at *
      generalize x ||| aH n = x' at *
      generalize y ||| aL n = y' at *
      have HO := Lib.hid ho
      have HV := Lib.hid hw
      have h1a := obj_below h1 (below_al wr (.cells #[.int .i64 n, .string s] 42))
      have H1 := Lib.hid h1a
      have H0 := Lib.hid (obj_below h0 (below_al wr (.cells #[.int .i64 n, .string s] 42)))
      have HB := Lib.hid (hbt hb (below_al wr (.cells #[.int .i64 n, .string s] 42)))
      have hsz := obj_lt h1
      obtain ⟨e0, e1, _, _⟩ := obj_cells h1a
      clear ho hw h1 h0 hb h1a hx hkl
      go_wp2_with fail
      refine (HV.out _).mono ?_
      rintro e w1 ⟨rfl, hb1⟩
      have hs1 := obj_below H1.out hb1
      have H3 := Lib.hid hs1
      have H2 := Lib.hid (obj_below H0.out hb1)
      have HB1 := Lib.hid (hbt HB.out hb1)
      obtain ⟨d0, d1, f2, f3⟩ := obj_cells hs1
      clear hs1 hb1 e0 e1 c0 c1
      go_wp2
      go_roundw
      case rel =>
        refine ⟨k + 1, by omega, by go_num, ?_, ?_, ?_⟩
        · rw [HO.out.1, HO.out.2]; exact obj_set2 H3.out _ _
        · exact obj_set_other H2.out (by omega) _ _
        · exact below_set2 HB1.out (by omega) _ _
      case measure => simp [intOf]; omega
    · have he : l.take k = l := items_all (by have := HLEN.out; omega)
      rw [he] at h1
      obtain ⟨c0, c1, _, _⟩ := obj_cells h1
      obtain ⟨c2, c3, f2, f3⟩ := obj_cells h0
      have H0 := Lib.hid h0
      have HB := Lib.hid hb
      clear h1 h0 he hb
      generalize hx : ofH (tagsOf l) = x at *
      generalize hy : ofL (tagsOf l) = y at *
      have HX := Lib.hid hx
      have HY := Lib.hid hy
      clear hx hy
      go_wp2
      refine bodyPost_ret (results_cell_row rfl _ _ (w.heap.size + 1) _ _ _ _ rfl (obj_set2 H0.out _ _) Tryd.underlying52 rfl (by kernel_rfl)) rfl ?_
      exact ⟨by rw [HX.out, HY.out]; rfl, below_set2 HB.out (by omega) _ _⟩


end Go.Proofs.YtlkpiapmdflahaaDoor
