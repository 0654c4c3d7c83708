/-
  What the document's List answers: for every set, in every world.
-/
import Derived.Test.YtdnckiaeeikbhaaFldRef
import Derived.Deep.AppendLies
import Derived.Laws.OwnMore
namespace Go.Proofs.Ytdnckiaeeikbhaa
open Go.RowKit

set_option maxRecDepth 100000 in
set_option maxHeartbeats 3200000 in
theorem refList_any (h l : Nat) (w : World) (b1 : h < M64) (b2 : l < M64) :
    Calls Try.prog 11 #[.int .u64 (h : Int), .int .u64 (l : Int)] w fun e w' => ∃ A cap, e = .returned (.slice A (listN h l 128).length cap) ∧ Ints w' A (zi (listN h l 128)) ∧ Below w.heap.size w w' := by
  obtain ⟨i0, hi, hz0, hz1, hz2⟩ := info_parts Try.infoX64
  have HO : Hid ((w.alloc (.cells #[] 3)).ownsRow w.heap.size 3 1 (.slice (some ⟨w.heap.size, 0, none⟩) 0 0) 0 []) := World.ownsRow_lit w #[] 0 (Nat.le_refl _) (by unfold maxLen; omega) rfl
  have HH := Lib.hid (fun (k : Int) W => refHas_any h l k W b1 b2)
  clear b1 b2
  go_enter Try.func11, Try.ntmps11
  go_wp2
  go_loopw [5, 6] (fun v i wr => ∃ n m len cap g : Nat, (n = m + 1 ∧ m ≤ 128 ∧ len = (listN h l m).length) ∧ i = .int .i64 (n : Int) ∧ v = .slice (some ⟨g, 0, none⟩) len cap ∧ wr.ownsRow w.heap.size 3 1 (.slice (some ⟨g, 0, none⟩) len cap) len ((listN h l m).map iv) ∧ Below w.heap.size w wr) (fun _ i _ => 129 - (intOf i).toNat)
  case atStart => exact ⟨1, 0, 0, 0, w.heap.size, ⟨rfl, by omega, rfl⟩, rfl, rfl, HO.out, below_al _ _⟩
  case round =>
    obtain ⟨n, m, len, cap, g, hf, rfl, rfl, hown, hb⟩ := hrel
    have HF := Lib.hid hf
    have hn1 : 1 ≤ n := by omega
    have hlen : len ≤ 128 := by have := listN_length_le h l m; omega
    by_cases hlt : n ≤ 128
    · have hst := listN_succ h l m
      rw [← hf.1] at hst
      cases hh : hasN h l (n : Int)
      · rw [hh] at hst
        have HC := Lib.hid (fun W => by have := HH.out (n : Int) W; rw [hh] at this; exact this)
        have HS := Lib.hid hst
        have HW := Lib.hid hown
        clear hst hf hh hown HO
        go_wp2_with fail
        refine (HC.out _).mono ?_
        rintro e w1 ⟨rfl, rfl⟩
        go_wp2
        go_roundw
        case rel =>
          have h1 := HF.out
          have h2 := HS.out
          simp at h2
          exact ⟨n + 1, m + 1, len, cap, g, ⟨by omega, by omega, by rw [← h1.1, h2]; exact h1.2.2⟩, by go_num, rfl, by rw [← h1.1, h2]; exact HW.out, hb⟩
        case measure => simp [intOf]; omega
      · rw [hh] at hst
        have HC := Lib.hid (fun W => by have := HH.out (n : Int) W; rw [hh] at this; exact this)
        have HS := Lib.hid hst
        have HW := Lib.hid hown
        have hbz := hb.size
        clear hst hf hh hown HO
        go_wp2_with fail
        refine (HC.out _).mono ?_
        rintro e w1 ⟨rfl, rfl⟩
        go_wp2_with (at_builtin; refine wpList_append_lies _ rfl _ _ _ rfl w.heap.size 3 i0 _ 1 8 Try.underlying31 hi hz0 hz1 hz2 rfl (by omega) (.slice (some ⟨g, 0, none⟩) len cap) len _ rfl (HW.out.alloc _) ⟨wr.heap.size, 0, none⟩ 1 1 [.int .i64 (n : Int)] rfl rfl (World.news_of_block (cs := #[.int .i64 (n : Int)]) (t := 3) (fr := (0, 0)) (heap_alloc_new wr _)) (by simp [Value.oneCell']) (by omega) (by unfold maxLen; omega) (by omega) (by simp; omega) (wr.heap.size + 1) (by simp) ?_; intro g' cap' w2 hown2 hgrow hat hlt2)
        have hb2 : Below w.heap.size w w2 := (hb.alloc hbz _).grown hgrow (by simp; omega) (by intro q hq; have := own_base HW.out; simp [Value.ownBlock] at hq; omega)
        have HW2 := Lib.hid hown2; clear hown2 hgrow hat hlt2
        go_wp2
        go_roundw
        case rel =>
          have h1 := HF.out
          have h2 := HS.out
          simp at h2
          exact ⟨n + 1, m + 1, len + 1, cap', g', ⟨by omega, by omega, by rw [← h1.1, h2, h1.2.2]; simp⟩, by go_num, rfl, by rw [← h1.1, h2, List.map_append]; exact HW2.out, hb2⟩
        case measure => simp [intOf]; omega
    · have HW := Lib.hid hown
      clear hf hown HO
      go_wp2
      go_ret
      have h1 := HF.out
      obtain rfl : m = 128 := by omega
      exact ⟨some ⟨g, 0, none⟩, cap, by rw [← h1.2.2]; rfl, ints_own HW.out h1.2.2.symm, hb⟩

end Go.Proofs.Ytdnckiaeeikbhaa
