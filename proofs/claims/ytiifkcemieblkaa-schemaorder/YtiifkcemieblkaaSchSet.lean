/-
  What Set and the document's Numbers answer: for every schema of up to 1000 specs, in every world.
-/
import Derived.Test.YtiifkcemieblkaaSchOf
import Derived.Test.YtiifkcemieblkaaFldRef
namespace Go.Proofs.Ytiifkcemieblkaa
open Go.RowKit

set_option maxRecDepth 100000 in
set_option maxHeartbeats 3200000 in
theorem sset_any (st v : Int) (A : Option Addr) (cap : Nat) (l : List Sp) (w : World) (hI : Spl w A l) (hn : l.length ≤ 1000) :
    Calls Try.prog 16 #[.agg #[.int .i64 st, .int .i64 v, .slice A l.length cap]] w fun e w' => e = .returned (setV (ofH (nosOf l)) (ofL (nosOf l))) ∧ Below w.heap.size w w' := by
  have HI := Lib.hid hI
  clear hI
  have HW := Lib.hid (fun (k : Nat) (n : Int) W => with_any (ofH (nosOf (l.take k))) (ofL (nosOf (l.take k))) n W (of_lt _).1 (of_lt _).2)
  unfold setV at HW
  generalize hlen : l.length = len at *
  have HLEN := Lib.hid hlen
  clear hlen
  go_enter Try.func16, Try.ntmps16
  go_wp2
  go_loopw [9] (fun i wr => ∃ k : Nat, k ≤ len ∧ i = .int .i64 (k : Int) ∧ wr.heap[w.heap.size + 2]? = some (setO (ofH (nosOf (l.take k))) (ofL (nosOf (l.take k)))) ∧ wr.heap[w.heap.size + 1]? = some (setO 0 0) ∧ Below w.heap.size w wr) (fun i _ => len - (intOf i).toNat)
  case atStart => exact ⟨0, Nat.zero_le _, rfl, heap_al _ _ _ (by simp), obj_below (heap_al _ _ _ (by simp)) (below_al _ _), hbt (hbt (below_al _ _) (below_al _ _)) (below_al _ _)⟩
  case round =>
    obtain ⟨k, hk, rfl, h1, h0, hb⟩ := hrel
    by_cases hlt : k < len
    · have hkl : k < l.length := by have := HLEN.out; omega
      obtain ⟨a, n, c, f, lo, hi, rfl, hx, c0, c1, c2, c3, c4⟩ := (HI.out.below hb).at_ hkl
      have ho := of_nos hkl
      rw [hx] at ho
      dsimp only at ho
      have hw := HW.out k n
      generalize ofH (nosOf (l.take k)) = x at *
      generalize ofL (nosOf (l.take k)) = y at *
      generalize x ||| aH n = x' at *
      generalize y ||| aL n = y' at *
      have HO := Lib.hid ho
      have HV := Lib.hid hw
      have h1a := obj_below h1 (below_al wr (.cells #[.int .i64 n, .int .i64 c, .int .i64 f, .int .i64 lo, .int .i64 hi] 34))
      have H1 := Lib.hid h1a
      have H0 := Lib.hid (obj_below h0 (below_al wr (.cells #[.int .i64 n, .int .i64 c, .int .i64 f, .int .i64 lo, .int .i64 hi] 34)))
      have HB := Lib.hid (hbt hb (below_al wr (.cells #[.int .i64 n, .int .i64 c, .int .i64 f, .int .i64 lo, .int .i64 hi] 34)))
      have hsz := obj_lt h1
      obtain ⟨e0, e1, _, _⟩ := obj_cells h1a
      clear ho hw h1 h0 hb h1a hx hkl
      go_wp2_with fail
      refine (HV.out _).mono ?_
      rintro e w1 ⟨rfl, hb1⟩
      have hs1 := obj_below H1.out hb1
      have H3 := Lib.hid hs1
      have H2 := Lib.hid (obj_below H0.out hb1)
      have HB1 := Lib.hid (hbt HB.out hb1)
      obtain ⟨d0, d1, f2, f3⟩ := obj_cells hs1
      clear hs1 hb1 e0 e1 c0 c1 c2 c3 c4
      go_wp2
      go_roundw
      case rel =>
        refine ⟨k + 1, by omega, by go_num, ?_, ?_, ?_⟩
        · rw [HO.out.1, HO.out.2]; exact obj_set2 H3.out _ _
        · exact obj_set_other H2.out (by omega) _ _
        · exact below_set2 HB1.out (by omega) _ _
      case measure => simp [intOf]; omega
    · have he : l.take k = l := List.take_of_length_le (by have := HLEN.out; omega)
      rw [he] at h1
      obtain ⟨c0, c1, _, _⟩ := obj_cells h1
      obtain ⟨c2, c3, f2, f3⟩ := obj_cells h0
      have H0 := Lib.hid h0
      have HB := Lib.hid hb
      clear h1 h0 he hb
      generalize hx : ofH (nosOf l) = x at *
      generalize hy : ofL (nosOf l) = y at *
      have HX := Lib.hid hx
      have HY := Lib.hid hy
      clear hx hy
      go_wp2
      refine bodyPost_ret (results_cell_row rfl _ _ (w.heap.size + 1) _ _ _ _ rfl (obj_set2 H0.out _ _) Try.underlying44 rfl (by kernel_rfl)) rfl ?_
      exact ⟨by rw [HX.out, HY.out]; rfl, below_set2 HB.out (by omega) _ _⟩

def zv (z : Int) : Value := .int .i64 z
theorem take_all {l : List Sp} {k : Nat} (h : l.length ≤ k) : l.take k = l := List.take_of_length_le h
theorem nos_part (l : List Sp) (k : Nat) (h : k ≤ l.length) : (nosOf (l.take k)).length = k := by simp [nosOf]; omega
theorem nos_own {w : World} {base g n c : Nat} {zs : List Int} (h : w.ownsRow base 3 1 (.slice (some ⟨g, 0, none⟩) n c) n (zs.map zv)) (hn : zs.length = n) : Ints w (some ⟨g, 0, none⟩) zs := ints_copy h hn

set_option maxRecDepth 100000 in
set_option maxHeartbeats 3200000 in
theorem snumbers_any (st v : Int) (A : Option Addr) (cap : Nat) (l : List Sp) (w : World) (hI : Spl w A l) (hn : l.length ≤ 1000) :
    Calls Try.prog 15 #[.agg #[.int .i64 st, .int .i64 v, .slice A l.length cap]] w fun e w' => ∃ A' cap', e = .returned (.slice A' (nosOf l).length cap') ∧ Ints w' A' (nosOf l) ∧ Below w.heap.size w w' := by
  obtain ⟨i0, hi, hz0, hz1, hz2⟩ := info_parts Try.infoX64
  have HI := Lib.hid hI
  clear hI
  rw [nos_length]
  generalize hlen : l.length = len at *
  have HLEN := Lib.hid hlen
  clear hlen
  have HO : Hid (((w.alloc (.cells #[.int .i64 st, .int .i64 v, .slice A len cap] 24)).alloc (.cells #[] 3)).ownsRow (w.alloc (.cells #[.int .i64 st, .int .i64 v, .slice A len cap] 24)).heap.size 3 1 (.slice (some ⟨(w.alloc (.cells #[.int .i64 st, .int .i64 v, .slice A len cap] 24)).heap.size, 0, none⟩) 0 0) 0 []) := World.ownsRow_lit _ #[] 0 (Nat.le_refl _) (by unfold maxLen; omega) rfl
  have hsz1 : (w.alloc (.cells #[.int .i64 st, .int .i64 v, .slice A len cap] 24)).heap.size = w.heap.size + 1 := by simp
  rw [hsz1] at HO
  go_enter Try.func15, Try.ntmps15
  go_wp2
  go_loopw [3, 4] (fun y i wr => ∃ (k cp g : Nat), k ≤ len ∧ i = .int .i64 (k : Int) ∧ y = .slice (some ⟨g, 0, none⟩) k cp ∧ wr.ownsRow (w.heap.size + 1) 3 1 (.slice (some ⟨g, 0, none⟩) k cp) k ((nosOf (l.take k)).map zv) ∧ Box wr w.heap.size st v A len cap ∧ Below w.heap.size w wr) (fun _ i _ => len - (intOf i).toNat)
  case atStart => exact ⟨0, 0, w.heap.size + 1, Nat.zero_le _, rfl, rfl, HO.out, (box_new _ _ _ _ _ _).below (below_al _ _), hbt (below_al _ _) (below_al _ _)⟩
  case round =>
    obtain ⟨k, cp, g, hk, rfl, rfl, hown, hbox, hb⟩ := hrel
    by_cases hlt : k < len
    · have hkl : k < l.length := by have := HLEN.out; omega
      obtain ⟨a, n, c, f, lo, hi', rfl, hx, c0, c1, c2, c3, c4⟩ := (HI.out.below hb).at_ hkl
      obtain ⟨b0, b1, b2⟩ := obj_cells3 hbox
      have hst : nosOf (l.take (k + 1)) = nosOf (l.take k) ++ [n] := by rw [take_sp hkl, nos_snoc, hx]
      have HST := Lib.hid hst
      have HW := Lib.hid hown
      have HX := Lib.hid hbox
      have HB := Lib.hid hb
      have hbz := hb.size
      have hbx := obj_lt hbox
      clear hst hown hbox hb hx hkl HO
      go_wp2_with (at_builtin; refine wpList_append_lies _ rfl _ _ _ rfl (w.heap.size + 1) 3 i0 _ 1 8 Try.underlying41 hi hz0 hz1 hz2 rfl (by omega) (.slice (some ⟨g, 0, none⟩) k cp) k _ rfl (HW.out.alloc _) ⟨wr.heap.size, 0, none⟩ 1 1 [.int .i64 n] rfl rfl (World.news_of_block (cs := #[.int .i64 n]) (t := 3) (fr := (0, 0)) (heap_alloc_new wr _)) (by simp [Value.oneCell']) (by omega) (by unfold maxLen; omega) (by omega) (by simp; omega) (wr.heap.size + 1) (by simp) ?_; intro g' cap' w2 hown2 hgrow hat hlt2)
      have hbB : Below (w.heap.size + 1) wr w2 := ((Below.refl _ _).alloc (by omega) _).grown hgrow (by simp; omega) (by intro q hq; have := own_base HW.out; simp [Value.ownBlock] at hq; omega)
      have HB2 : Hid (Below w.heap.size w w2) := HB.out.trans (hbB.mono (by omega))
      have HX2 : Hid (Box w2 w.heap.size st v (some a) len cap) := (hbB.block w.heap.size (by omega)).trans HX.out
      have HW2 := Lib.hid hown2
      clear hown2 hgrow hat hlt2 hbB
      go_wp2
      go_roundw
      case rel => exact ⟨k + 1, cap', g', by omega, by go_num, rfl, by rw [HST.out, List.map_append]; exact HW2.out, HX2.out, HB2.out⟩
      case measure => simp [intOf]; omega
    · have hke : k = len := by omega
      subst hke
      have HW := Lib.hid hown
      have HB := Lib.hid hb
      obtain ⟨b0, b1, b2⟩ := obj_cells3 hbox
      have HE := Lib.hid (take_all (l := l) (k := k) (by have := HLEN.out; omega))
      clear hown hbox hb HO
      go_wp2
      go_ret
      exact ⟨some ⟨g, 0, none⟩, cp, rfl, nos_own (zs := nosOf l) (by have := HW.out; rw [HE.out] at this; exact this) (by rw [nos_length, HLEN.out]), HB.out⟩

end Go.Proofs.Ytiifkcemieblkaa
