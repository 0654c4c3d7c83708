/-
  What the document's Put answers: for every text, in every world.
-/
import Derived.Test.YtdnckiaeeikbhaaHexPut
import Derived.IntWalk
namespace Go.Proofs.Ytdnckiaeeikbhaa
open Go.RowKit

theorem ix_hi' (c : UInt8) (w : World) : (Instr.index 9 (.string xdigits) (.int .u8 ((c.toNat : Int) / 16))).run Try.prog w = .ok (.int .u8 (((xd (c.toNat / 16)).toNat : Nat) : Int)) w := ix_hi c w
theorem ix_lo' (c : UInt8) (w : World) : (Instr.index 9 (.string xdigits) (.int .u8 ((c.toNat : Int) % 16))).run Try.prog w = .ok (.int .u8 (((xd (c.toNat % 16)).toNat : Nat) : Int)) w := ix_lo c w

set_option maxRecDepth 100000 in
set_option maxHeartbeats 3200000 in
theorem hrefPut_any (s : ByteArray) (w : World) (hs : s.size ≤ 1000000000) :
    Calls Try.prog 17 #[.string s] w fun e w' => e = .returned (.string ⟨(hputL s.data.toList).toArray⟩) ∧ Below w.heap.size w w' := by
  obtain ⟨i0, hi, hz0, hz1, hz2⟩ := info_parts Try.infoX8
  have HO : Hid ((w.alloc (.cells #[] 5)).ownsRow w.heap.size 5 1 (.slice (some ⟨w.heap.size, 0, none⟩) 0 0) 0 []) := World.ownsRow_lit w #[] 0 (Nat.le_refl _) (by unfold maxLen; omega) rfl
  go_enter Try.func17, Try.ntmps17
  go_wp2
  go_loopw [3, 4] (fun v i wr => ∃ k cap : Nat, ∃ g, k ≤ s.size ∧ i = .int .i64 (k : Int) ∧ v = .slice (some ⟨g, 0, none⟩) (2 * k) cap ∧ wr.ownsRow w.heap.size 5 1 (.slice (some ⟨g, 0, none⟩) (2 * k) cap) (2 * k) ((hputL (s.data.toList.take k)).map xb) ∧ Below w.heap.size w wr) (fun _ i _ => s.size - (intOf i).toNat)
  case atStart => exact ⟨0, 0, w.heap.size, Nat.zero_le _, rfl, rfl, HO.out, (Below.refl _ _).alloc (Nat.le_refl _) _⟩
  case round =>
    obtain ⟨k, cap, g, hk, rfl, rfl, hown, hb⟩ := hrel
    by_cases hlt : k < s.size
    · have HW := Lib.hid hown; clear hown HO
      have hix := ix_str s k hlt
      have hst : hputL (s.data.toList.take (k + 1)) = hputL (s.data.toList.take k) ++ [xd (s[k].toNat / 16), xd (s[k].toNat % 16)] := by rw [take_snoc' s k hlt, hputL_snoc]
      generalize s[k] = c at hix hst
      have HS := Lib.hid hst; clear hst
      have hhi := ix_hi' c
      have hlo := ix_lo' c
      have hc0 : (0 : Int) ≤ (c.toNat : Int) := by omega
      have hc1 : (c.toNat : Int) < 256 := by have := c.toNat_lt; omega
      have hq : IntKind.u8.wrap ((c.toNat : Int) / 16) = (c.toNat : Int) / 16 := IntWalk.u8_in _ (by omega)
      have hr : (c.toNat : Int).tmod 16 = (c.toNat : Int) % 16 := Int.tmod_eq_emod_of_nonneg hc0
      go_wp2
      refine wp_region_noPanic ?_
      refine wp_region_held_drew (S := fun _ => True) (by kernel_rfl) trivial (fun _ => ?_)
      refine give_val (i := 0) (v := ?_) rfl (by kernel_rfl) (by kernel_rfl) (by kernel_rfl) (fun _ _ _ h => h) (by rfl) (fun _ _ => ?_) trivial ?_
      rotate_left
      · (go_simp; try (with_reducible rfl))
      try simp only [Act.put, List.setIfInBounds_toArray, List.set_cons_zero, List.set_cons_succ]
      refine give_call (i := 1) 31 #[] rfl (by kernel_rfl) (by kernel_rfl) (by kernel_rfl) (fun _ _ _ h => h) (by rfl) (fun u hu => digits_any _) (fun _ _ => ?_) trivial ?_
      · (go_simp; try (with_reducible rfl))
      try simp only [Act.put, List.setIfInBounds_toArray, List.set_cons_zero, List.set_cons_succ]
      refine give_val (i := 2) (v := ?_) rfl (by kernel_rfl) (by kernel_rfl) (by kernel_rfl) (fun _ _ _ h => h) (by rfl) (fun _ _ => ?_) trivial ?_
      rotate_left
      · (go_simp; try (with_reducible rfl))
      try simp only [Act.put, List.setIfInBounds_toArray, List.set_cons_zero, List.set_cons_succ]
      refine give_val (i := 3) (v := ?_) rfl (by kernel_rfl) (by kernel_rfl) (by kernel_rfl) (fun _ _ _ h => h) (by rfl) (fun _ _ => ?_) trivial ?_
      rotate_left
      · (go_simp; try (with_reducible rfl))
      try simp only [Act.put, List.setIfInBounds_toArray, List.set_cons_zero, List.set_cons_succ]
      refine give_val (i := 4) (v := ?_) rfl (by kernel_rfl) (by kernel_rfl) (by kernel_rfl) (fun _ _ _ h => h) (by rfl) (fun _ _ => ?_) trivial ?_
      rotate_left
      · (go_simp; try (with_reducible rfl))
      try simp only [Act.put, List.setIfInBounds_toArray, List.set_cons_zero, List.set_cons_succ]
      refine give_val (i := 5) (v := ?_) rfl (by kernel_rfl) (by kernel_rfl) (by kernel_rfl) (fun _ _ _ h => h) (by rfl) (fun _ _ => ?_) trivial ?_
      rotate_left
      · (go_simp; try (with_reducible rfl))
      try simp only [Act.put, List.setIfInBounds_toArray, List.set_cons_zero, List.set_cons_succ]
      refine give_val (i := 6) (v := ?_) rfl (by kernel_rfl) (by kernel_rfl) (by kernel_rfl) (fun _ _ _ h => h) (by rfl) (fun _ _ => ?_) trivial ?_
      rotate_left
      · (go_simp; try (with_reducible rfl))
      try simp only [Act.put, List.setIfInBounds_toArray, List.set_cons_zero, List.set_cons_succ]
      refine give_call (i := 7) 31 #[] rfl (by kernel_rfl) (by kernel_rfl) (by kernel_rfl) (fun _ _ _ h => h) (by rfl) (fun u hu => digits_any _) (fun _ _ => ?_) trivial ?_
      · (go_simp; try (with_reducible rfl))
      try simp only [Act.put, List.setIfInBounds_toArray, List.set_cons_zero, List.set_cons_succ]
      refine give_val (i := 8) (v := ?_) rfl (by kernel_rfl) (by kernel_rfl) (by kernel_rfl) (fun _ _ _ h => h) (by rfl) (fun _ _ => ?_) trivial ?_
      rotate_left
      · (go_simp; try (with_reducible rfl))
      try simp only [Act.put, List.setIfInBounds_toArray, List.set_cons_zero, List.set_cons_succ]
      refine give_val (i := 9) (v := ?_) rfl (by kernel_rfl) (by kernel_rfl) (by kernel_rfl) (fun _ _ _ h => h) (by rfl) (fun _ _ => ?_) trivial ?_
      rotate_left
      · (go_simp; try (with_reducible rfl))
      try simp only [Act.put, List.setIfInBounds_toArray, List.set_cons_zero, List.set_cons_succ]
      refine give_val (i := 10) (v := ?_) rfl (by kernel_rfl) (by kernel_rfl) (by kernel_rfl) (fun _ _ _ h => h) (by rfl) (fun _ _ => ?_) trivial ?_
      rotate_left
      · (go_simp; try (with_reducible rfl))
      try simp only [Act.put, List.setIfInBounds_toArray, List.set_cons_zero, List.set_cons_succ]
      refine give_val (i := 11) (v := ?_) rfl (by kernel_rfl) (by kernel_rfl) (by kernel_rfl) (fun _ _ _ h => h) (by rfl) (fun _ _ => ?_) trivial ?_
      rotate_left
      · (go_simp; try (with_reducible rfl))
      try simp only [Act.put, List.setIfInBounds_toArray, List.set_cons_zero, List.set_cons_succ]
      refine give_val (i := 12) (v := ?_) rfl (by kernel_rfl) (by kernel_rfl) (by kernel_rfl) (fun _ _ _ h => h) (by rfl) (fun _ _ => ?_) trivial ?_
      rotate_left
      · (go_simp; try (with_reducible rfl))
      try simp only [Act.put, List.setIfInBounds_toArray, List.set_cons_zero, List.set_cons_succ]
      refine only (i := 13) rfl (by kernel_rfl) (by rfl) (fun K hK => ?_)
      go_simp
      refine hK.out _ _ trivial ?_
      clear hK
      try simp only [Act.put, List.setIfInBounds_toArray, List.set_cons_zero, List.set_cons_succ]
      refine only (i := 14) rfl (by kernel_rfl) (by rfl) (fun K hK => ?_)
      refine wp_append_lies _ _ _ _ (by rfl) w.heap.size 5 i0 _ 1 1 Try.underlying63 hi hz0 hz1 hz2 rfl (by omega) (.slice (some ⟨g, 0, none⟩) (2 * k) cap) (2 * k) _ (by rfl) ((HW.out.alloc _).drew) ⟨wr.heap.size, 0, none⟩ 2 2 [xb (xd (c.toNat / 16)), xb (xd (c.toNat % 16))] (by rfl) (by rfl) (World.news_of_block (cs := #[xb (xd (c.toNat / 16)), xb (xd (c.toNat % 16))]) (t := 5) (fr := (0, 0)) (heap_alloc_new wr _)) (by simp [xb, Value.oneCell']) (by omega) (by unfold maxLen; omega) (by omega) (by have := hb.size; simp; omega) (wr.heap.size + 1) (by simp) ?_
      intro g' cap' w2 hown2 hgrow hat hlt2
      refine hK.out _ _ trivial ?_
      clear hK
      try simp only [Act.put, List.setIfInBounds_toArray, List.set_cons_zero, List.set_cons_succ]
      refine give_val (i := 15) (v := ?_) rfl (by kernel_rfl) (by kernel_rfl) (by kernel_rfl) (fun _ _ _ h => h) (by rfl) (fun _ _ => ?_) trivial ?_
      rotate_left
      · (go_simp; try (with_reducible rfl))
      try simp only [Act.put, List.setIfInBounds_toArray, List.set_cons_zero, List.set_cons_succ]
      refine wpAnyH_done (by kernel_rfl) (NoPanic.normal ?_) _
      have hz := hb.size
      have hb2 : Below w.heap.size w w2 := (((hb.alloc hz _).drew)).grown hgrow (by simp; omega) (by intro q hq; have := own_base HW.out; simp [Value.ownBlock] at hq; omega)
      have HW2 := Lib.hid hown2; clear hown2 hgrow hat hlt2
      go_wp2
      go_roundw
      case rel => exact ⟨k + 1, cap', g', by omega, by go_num, rfl, by rw [HS.out, List.map_append]; exact HW2.out, hb2⟩
      case measure => simp [intOf]; omega
    · have hcv : (convert 63 9 (.slice (some ⟨g, 0, none⟩) (2 * k) cap)).run Try.prog wr = .ok (.string ⟨(hputL s.data.toList).toArray⟩) wr := by
        have hl : hputL (s.data.toList.take k) = hputL s.data.toList := by rw [List.take_of_length_le (by simp; omega)]
        have hlen : (hputL s.data.toList).length = 2 * k := by rw [hputL_length]; simp; omega
        have h := run_convert_bytes_back (P := Try.prog) wr 63 9 5 ⟨g, 0, none⟩ cap (hputL s.data.toList) Try.underlying63 Try.underlying5 Try.underlying9 (by
          intro i hi
          rw [hl] at hown
          have hc := hown.cellAt i (by omega)
          rw [show (⟨g, 0, none⟩ : Addr).add i = ⟨g, i, none⟩ from by rw [Addr.add_lit, Nat.zero_add], hc]
          simp [xb, hi])
        rw [hlen] at h
        exact h
      clear hown HO
      go_wp2
      go_ret
      exact ⟨rfl, hb⟩

end Go.Proofs.Ytdnckiaeeikbhaa
