/-
  What the document's List answers, and a set's numbers one after the other: for every set, in every world.
-/
import Derived.Test.YtlclmhninhdfnaaFldRef
import Derived.Test.YtlclmhninhdfnaaFldNext
import Derived.Deep.AppendLies
import Derived.Laws.OwnMore
namespace Go.Proofs.Ytlclmhninhdfnaa
open Go.RowKit

set_option maxRecDepth 100000 in
set_option maxHeartbeats 3200000 in
theorem refList_any (h l : Nat) (w : World) (b1 : h < M64) (b2 : l < M64) :
    Calls Try.prog 10 #[.int .u64 (h : Int), .int .u64 (l : Int)] w fun e w' => ∃ A cap, e = .returned (.slice A (listN h l 128).length cap) ∧ Ints w' A (zi (listN h l 128)) ∧ Below w.heap.size w w' := by
  obtain ⟨i0, hi, hz0, hz1, hz2⟩ := info_parts Try.infoX64
  have HO : Hid ((w.alloc (.cells #[] 3)).ownsRow w.heap.size 3 1 (.slice (some ⟨w.heap.size, 0, none⟩) 0 0) 0 []) := World.ownsRow_lit w #[] 0 (Nat.le_refl _) (by unfold maxLen; omega) rfl
  have HH := Lib.hid (fun (k : Int) W => refHas_any h l k W b1 b2)
  clear b1 b2
  go_enter Try.func10, Try.ntmps10
  go_wp2
  go_loopw [5, 6] (fun v i wr => ∃ n m len cap g : Nat, (n = m + 1 ∧ m ≤ 128 ∧ len = (listN h l m).length) ∧ i = .int .i64 (n : Int) ∧ v = .slice (some ⟨g, 0, none⟩) len cap ∧ wr.ownsRow w.heap.size 3 1 (.slice (some ⟨g, 0, none⟩) len cap) len ((listN h l m).map iv) ∧ Below w.heap.size w wr) (fun _ i _ => 129 - (intOf i).toNat)
  case atStart => exact ⟨1, 0, 0, 0, w.heap.size, ⟨rfl, by omega, rfl⟩, rfl, rfl, HO.out, below_al _ _⟩
  case round =>
    obtain ⟨n, m, len, cap, g, hf, rfl, rfl, hown, hb⟩ := hrel
    have HF := Lib.hid hf
    have hn1 : 1 ≤ n := by omega
    have hlen : len ≤ 128 := by have := listN_length_le h l m; omega
    by_cases hlt : n ≤ 128
    · have hst := listN_succ h l m
      rw [← hf.1] at hst
      cases hh : hasN h l (n : Int)
      · rw [hh] at hst
        have HC := Lib.hid (fun W => by have := HH.out (n : Int) W; rw [hh] at this; exact this)
        have HS := Lib.hid hst
        have HW := Lib.hid hown
        clear hst hf hh hown HO
        go_wp2_with fail
        refine (HC.out _).mono ?_
        rintro e w1 ⟨rfl, rfl⟩
        go_wp2
        go_roundw
        case rel =>
          have h1 := HF.out
          have h2 := HS.out
          simp at h2
          exact ⟨n + 1, m + 1, len, cap, g, ⟨by omega, by omega, by rw [← h1.1, h2]; exact h1.2.2⟩, by go_num, rfl, by rw [← h1.1, h2]; exact HW.out, hb⟩
        case measure => simp [intOf]; omega
      · rw [hh] at hst
        have HC := Lib.hid (fun W => by have := HH.out (n : Int) W; rw [hh] at this; exact this)
        have HS := Lib.hid hst
        have HW := Lib.hid hown
        have hbz := hb.size
        clear hst hf hh hown HO
        go_wp2_with fail
        refine (HC.out _).mono ?_
        rintro e w1 ⟨rfl, rfl⟩
        go_wp2_with (at_builtin; refine wpList_append_lies _ rfl _ _ _ rfl w.heap.size 3 i0 _ 1 8 Try.underlying28 hi hz0 hz1 hz2 rfl (by omega) (.slice (some ⟨g, 0, none⟩) len cap) len _ rfl (HW.out.alloc _) ⟨wr.heap.size, 0, none⟩ 1 1 [.int .i64 (n : Int)] rfl rfl (World.news_of_block (cs := #[.int .i64 (n : Int)]) (t := 3) (fr := (0, 0)) (heap_alloc_new wr _)) (by simp [Value.oneCell']) (by omega) (by unfold maxLen; omega) (by omega) (by simp; omega) (wr.heap.size + 1) (by simp) ?_; intro g' cap' w2 hown2 hgrow hat hlt2)
        have hb2 : Below w.heap.size w w2 := (hb.alloc hbz _).grown hgrow (by simp; omega) (by intro q hq; have := own_base HW.out; simp [Value.ownBlock] at hq; omega)
        have HW2 := Lib.hid hown2; clear hown2 hgrow hat hlt2
        go_wp2
        go_roundw
        case rel =>
          have h1 := HF.out
          have h2 := HS.out
          simp at h2
          exact ⟨n + 1, m + 1, len + 1, cap', g', ⟨by omega, by omega, by rw [← h1.1, h2, h1.2.2]; simp⟩, by go_num, rfl, by rw [← h1.1, h2, List.map_append]; exact HW2.out, hb2⟩
        case measure => simp [intOf]; omega
    · have HW := Lib.hid hown
      clear hf hown HO
      go_wp2
      go_ret
      have h1 := HF.out
      obtain rfl : m = 128 := by omega
      exact ⟨some ⟨g, 0, none⟩, cap, by rw [← h1.2.2]; rfl, ints_own HW.out h1.2.2.symm, hb⟩

theorem own_not_set {w : World} {base g n c h l : Nat} {xs : List Value} (ho : w.ownsRow base 3 1 (.slice (some ⟨g, 0, none⟩) n c) n xs) (hs : w.heap[g]? = some (setO h l)) : False := by
  rcases ho.2 with ⟨h1, _⟩ | ⟨g', cap, cur, h1, h2, h3, h4⟩
  · cases h1
  · injection h1 with h1
    injection h1 with h1
    injection h1 with h1
    subst h1
    rw [h3] at hs
    simp [setO] at hs
theorem listN_mem_le {h l m k : Nat} (hk : k ∈ listN h l m) : k ≤ m := by
  unfold listN at hk
  have := (List.mem_filter.1 hk).1
  rw [List.mem_range'_1] at this
  omega
/-- What the round of 'list' keeps: the numbers up to m stand in the row, r is the next. -/
def ListRel (h l : Nat) (w : World) (v i : Value) (wr : World) : Prop :=
  ∃ m r len cap g : Nat, (r = nextN h l (m : Int) ∧ m ≤ 128 ∧ len = (listN h l m).length) ∧ i = .int .i64 (r : Int) ∧ v = .slice (some ⟨g, 0, none⟩) len cap ∧ wr.ownsRow w.heap.size 3 1 (.slice (some ⟨g, 0, none⟩) len cap) len ((listN h l m).map iv) ∧ wr.heap[w.heap.size]? = some (setO h l) ∧ Below w.heap.size w wr

set_option maxRecDepth 100000 in
set_option maxHeartbeats 3200000 in
theorem list_any (h l : Nat) (w : World) (b1 : h < M64) (b2 : l < M64) :
    Calls Try.prog 11 #[setV h l] w fun e w' => ∃ A cap, e = .returned (.tuple #[.slice A (listN h l 128).length cap, .bool true]) ∧ Ints w' A (zi (listN h l 128)) ∧ Below w.heap.size w w' := by
  obtain ⟨i0, hi, hz0, hz1, hz2⟩ := info_parts Try.infoX64
  have HN := Lib.hid (fun (k : Int) (hk : k ≤ 9223372036854775807) W => next_any h l k W b1 b2 hk)
  have HX := Lib.hid (fun (m r : Nat) (hr : nextN h l (m : Int) = r) (h0 : r ≠ 0) => listN_next b1 b2 hr h0)
  have HE := Lib.hid (fun (m : Nat) (hm : m ≤ 128) (h0 : nextN h l (m : Int) = 0) => listN_end b1 b2 hm h0)
  have HI := Lib.hid (fun (n : Int) => next_is b1 b2 n)
  have HL := Lib.hid (fun (n : Int) => next_le h l b1 b2 n)
  clear b1 b2
  unfold setV at *
  have hO : ((w.alloc (setO h l)).alloc (.cells #[] 3)).ownsRow w.heap.size 3 1 (.slice (some ⟨w.heap.size + 1, 0, none⟩) 0 0) 0 [] := by
    have := World.ownsRow_lit (w.alloc (setO h l)) #[] 0 (base := w.heap.size) (e := 3) (size := 1) (by simp) (by unfold maxLen; omega) rfl
    simpa using this
  have HO := Lib.hid hO; clear hO
  go_enter Try.func11, Try.ntmps11
  go_wp2_with fail
  refine (HN.out 0 (by omega) _).mono ?_
  rintro e w1 ⟨rfl, hb0⟩
  have HW0 := Lib.hid (own_below HO.out hb0)
  have H0 := Lib.hid (obj_below (heap_alloc2_old w (setO h l) (.cells #[] 3)) hb0)
  have HB0 := Lib.hid (hbt (hbt (below_al w (setO h l)) (below_al _ (.cells #[] 3))) hb0)
  generalize hr : nextN h l 0 = r0 at *
  have HR0 : Hid (r0 = nextN h l ((0 : Nat) : Int)) := hr.symm
  clear hb0 HO hr
  go_wp2
  go_loopw [4, 5] (ListRel h l w) (fun _ i _ => if intOf i = 0 then 0 else 129 - (intOf i).toNat)
  case atStart => exact ⟨0, r0, 0, 0, w.heap.size + 1, ⟨HR0.out, by omega, rfl⟩, rfl, rfl, HW0.out, H0.out, HB0.out⟩
  case round =>
    obtain ⟨m, r, len, cap, g, hf, rfl, rfl, hown, hset, hb⟩ := hrel
    have HF := Lib.hid hf
    by_cases h0 : r = 0
    · subst h0
      have HW := Lib.hid hown
      clear hown hset
      go_wp2
      go_ret2
      have h1 := HF.out
      have h2 := HE.out m h1.2.1 h1.1.symm
      refine ⟨some ⟨g, 0, none⟩, cap, by rw [← h2, ← h1.2.2]; rfl, ?_, hb⟩
      have := ints_own HW.out h1.2.2.symm
      rwa [h2] at this
    · have hx := HX.out m r hf.1.symm h0
      have hn := (HI.out (m : Int)).1 (by rw [← hf.1]; exact h0)
      rw [← hf.1] at hn
      have hl := HL.out (m : Int)
      rw [← hf.1] at hl
      have hl2 := HL.out (r : Int)
      have hlen : len ≤ 128 := by have := listN_length_le h l m; omega
      have hnn := (HI.out (r : Int)).1
      have hmr : m < r := by omega
      have HNN : Hid (nextN h l (r : Int) ≠ 0 → r < nextN h l (r : Int)) := fun hh => by have := (hnn hh).1; omega
      have hc := HN.out (r : Int) (by omega)
      generalize hr' : nextN h l (r : Int) = r' at *
      have HC := Lib.hid hc
      have HR' := Lib.hid hr'
      have HX' := Lib.hid hx
      have hr1 : 1 ≤ r := by omega
      obtain ⟨c0, c1, _, _⟩ := obj_cells hset
      have hlast : ∀ q, len = q + 1 → ∃ z : Nat, z < r ∧ wr.cell? ⟨g, q, none⟩ = some (.int .i64 (z : Int)) := by
        intro q hq
        have hlt : q < (listN h l m).length := by omega
        refine ⟨(listN h l m)[q], ?_, ?_⟩
        · have := listN_mem_le (List.getElem_mem hlt)
          omega
        · have := hown.cellAt q (by omega)
          rw [this]
          simp [iv, hlt]
      have HW := Lib.hid hown
      have HS := Lib.hid hset
      have hbz := hb.size
      have hg := own_base hown
      have hgs : w.heap.size ≠ g := by
        intro e
        subst e
        exact own_not_set hown hset
      have hg1 : w.heap.size + 1 ≤ g := by omega
      have hk1 := obj_lt hset
      clear hx hn hnn hc hown hset hf hr' hgs
      cases len with
      | zero =>
        clear hlast
        go_wp2_with (at_builtin; refine wpList_append_lies _ rfl _ _ _ rfl w.heap.size 3 i0 _ 1 8 Try.underlying28 hi hz0 hz1 hz2 rfl (by omega) (.slice (some ⟨g, 0, none⟩) 0 cap) 0 _ rfl (HW.out.alloc _) ⟨wr.heap.size, 0, none⟩ 1 1 [.int .i64 (r : Int)] rfl rfl (World.news_of_block (cs := #[.int .i64 (r : Int)]) (t := 3) (fr := (0, 0)) (heap_alloc_new wr _)) (by simp [Value.oneCell']) (by omega) (by unfold maxLen; omega) (by omega) (by simp; omega) (wr.heap.size + 1) (by simp) ?_; intro g' cap' w2 hown2 hgrow hat hlt2; have hbB : Below (w.heap.size + 1) wr w2 := ((Below.refl _ _).alloc (by omega) _).grown hgrow (by simp; omega) (by intro q hq; simp [Value.ownBlock] at hq; omega); obtain ⟨d0, d1, _, _⟩ := obj_cells ((hbB.block w.heap.size (by omega)).trans HS.out); have HW2 := Lib.hid hown2; have HB2 := Lib.hid hbB; clear hown2 hgrow hat hlt2 hbB)
        refine (HC.out _).mono ?_
        rintro e w3 ⟨rfl, hb3⟩
        have HW3 := Lib.hid (own_below HW2.out hb3)
        have HS3 := Lib.hid (obj_below ((HB2.out.block w.heap.size (by omega)).trans HS.out) hb3)
        have HB3 := Lib.hid (hbt (hb.trans (HB2.out.mono (by omega))) hb3)
        clear hb3 d0 d1 c0 c1
        go_wp2
        go_roundw
        case rel =>
          have h1 := HF.out
          have h2 := HX'.out
          exact ⟨r, r', 0 + 1, cap', g', ⟨HR'.out.symm, hl, by rw [h2, List.length_append, ← h1.2.2]; rfl⟩, by go_num, rfl, by rw [h2, List.map_append]; exact HW3.out, HS3.out, HB3.out⟩
        case measure =>
          have := HNN.out
          simp [intOf]
          by_cases h9 : r' = 0
          · simp [h9, h0]; omega
          · have := this h9
            simp [h9, h0]; omega
      | succ q =>
        obtain ⟨z, hz, hcz⟩ := hlast q rfl
        clear hlast
        go_wp2_with (at_builtin; refine wpList_append_lies _ rfl _ _ _ rfl w.heap.size 3 i0 _ 1 8 Try.underlying28 hi hz0 hz1 hz2 rfl (by omega) (.slice (some ⟨g, 0, none⟩) (q + 1) cap) (q + 1) _ rfl (HW.out.alloc _) ⟨wr.heap.size, 0, none⟩ 1 1 [.int .i64 (r : Int)] rfl rfl (World.news_of_block (cs := #[.int .i64 (r : Int)]) (t := 3) (fr := (0, 0)) (heap_alloc_new wr _)) (by simp [Value.oneCell']) (by omega) (by unfold maxLen; omega) (by omega) (by simp; omega) (wr.heap.size + 1) (by simp) ?_; intro g' cap' w2 hown2 hgrow hat hlt2; have hbB : Below (w.heap.size + 1) wr w2 := ((Below.refl _ _).alloc (by omega) _).grown hgrow (by simp; omega) (by intro q hq; simp [Value.ownBlock] at hq; omega); obtain ⟨d0, d1, _, _⟩ := obj_cells ((hbB.block w.heap.size (by omega)).trans HS.out); have HW2 := Lib.hid hown2; have HB2 := Lib.hid hbB; clear hown2 hgrow hat hlt2 hbB)
        refine (HC.out _).mono ?_
        rintro e w3 ⟨rfl, hb3⟩
        have HW3 := Lib.hid (own_below HW2.out hb3)
        have HS3 := Lib.hid (obj_below ((HB2.out.block w.heap.size (by omega)).trans HS.out) hb3)
        have HB3 := Lib.hid (hbt (hb.trans (HB2.out.mono (by omega))) hb3)
        clear hb3 d0 d1 c0 c1
        go_wp2
        go_roundw
        case rel =>
          have h1 := HF.out
          have h2 := HX'.out
          exact ⟨r, r', (q + 1) + 1, cap', g', ⟨HR'.out.symm, hl, by rw [h2, List.length_append, ← h1.2.2]; rfl⟩, by go_num, rfl, by rw [h2, List.map_append]; exact HW3.out, HS3.out, HB3.out⟩
        case measure =>
          have := HNN.out
          simp [intOf]
          by_cases h9 : r' = 0
          · simp [h9, h0]; omega
          · have := this h9
            simp [h9, h0]; omega

end Go.Proofs.Ytlclmhninhdfnaa
