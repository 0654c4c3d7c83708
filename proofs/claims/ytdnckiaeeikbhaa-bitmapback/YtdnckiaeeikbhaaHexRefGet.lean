/-
  What the document's Get answers: for every text, in every world.
-/
import Derived.Test.YtdnckiaeeikbhaaHexGet
import Derived.IntWalk
namespace Go.Proofs.Ytdnckiaeeikbhaa
open Go.RowKit

theorem worth_no (c : UInt8) (w : World) (h : isX c = false) : Calls Try.prog 40 #[.int .u8 (c.toNat : Int)] w fun e w' => e = .returned (.int .i64 (-1)) ∧ w = w' := by
  have := worth_any c w
  rw [xW_no h] at this
  exact this
theorem worth_yes (c : UInt8) (w : World) (h : isX c = true) : Calls Try.prog 40 #[.int .u8 (c.toNat : Int)] w fun e w' => e = .returned (.int .i64 (xv c : Int)) ∧ w = w' := by
  have := worth_any c w
  rw [xW_yes h] at this
  exact this

set_option maxRecDepth 100000 in
set_option maxHeartbeats 3200000 in
theorem hrefGet_any (s : ByteArray) (w : World) (hs : s.size ≤ 1000000000) :
    Calls Try.prog 37 #[.string s] w fun e w' => e = .returned (.tuple #[.string (hgetS s.data.toList), .int .i64 (hgetI s.data.toList), .bool (hgetB s.data.toList)]) ∧ Below w.heap.size w w' := by
  obtain ⟨i0, hi, hz0, hz1, hz2⟩ := info_parts Try.infoX8
  go_enter Try.func37, Try.ntmps37
  go_wp2
  go_loop [5] (fun i => ∃ k : Nat, k ≤ s.size ∧ i = .int .i64 (k : Int) ∧ (s.data.toList.take k).all isX = true) (fun i => s.size - (intOf i).toNat)
  case atStart => exact ⟨0, Nat.zero_le _, rfl, rfl⟩
  case round =>
    obtain ⟨k, hk, rfl, ha⟩ := hrel
    have HA := Lib.hid ha; clear ha
    by_cases hlt : k < s.size
    · cases hd : isX s[k]
      · have hb : hbad s.data.toList = k := hbad_at (by simpa using hlt) HA.out hd
        have hg : hgetB s.data.toList = false := hgetB_no (Or.inl (by rw [List.all_eq_false]; exact ⟨s[k], by show s.data[k] ∈ s.data.toList; simp, by simp [hd]⟩))
        have HG := Lib.hid hg; clear hg
        have HB := Lib.hid hb; clear hb
        have HD := Lib.hid hd; clear hd
        go_wp2_with (go_at_call 40; refine (worth_no s[k] _ HD.out).mono ?_; rintro e w' ⟨rfl, rfl⟩)
        go_ret3
        exact ⟨by rw [hgetS_no HG.out, hgetI_no HG.out, HG.out, HB.out]; rfl, Below.refl _ _⟩
      · have HD := Lib.hid hd; clear hd
        have hv : (0 : Int) ≤ (xv s[k] : Int) := by omega
        go_wp2_with (go_at_call 40; refine (worth_yes s[k] _ HD.out).mono ?_; rintro e w' ⟨rfl, rfl⟩)
        go_round
        case rel => exact ⟨k + 1, by omega, by go_num, allX_step s k hlt HA.out HD.out⟩
        case measure => simp [intOf]; omega
    · have hall : s.data.toList.all isX = true := by
        have h := HA.out
        rwa [List.take_of_length_le (by simp; omega)] at h
      have HALL := Lib.hid hall; clear hall HA
      have hkn : k = s.size := by omega
      subst hkn
      have hl : s.data.toList.length = s.size := by simp
      have HL := Lib.hid hl; clear hl
      by_cases hodd : s.size % 2 = 1
      · have t : ((s.size : Int) % 2 == 1) = true := by simp; omega
        have hg : hgetB s.data.toList = false := hgetB_no (Or.inr (by rw [HL.out]; exact hodd))
        have HG := Lib.hid hg; clear hg
        clear hodd
        go_wp2
        go_ret3
        exact ⟨by rw [hgetS_no HG.out, hgetI_no HG.out, HG.out, hbad_all HALL.out, HL.out]; rfl, Below.refl _ _⟩
      · have t : ((s.size : Int) % 2 == 1) = false := by apply beq_false_of_ne; omega
        have he : s.size % 2 = 0 := by omega
        have HE := Lib.hid he; clear he hodd
        have hg : hgetB s.data.toList = true := hgetB_yes HALL.out (by rw [HL.out]; exact HE.out)
        have HG := Lib.hid hg; clear hg
        have HO : Hid ((w.alloc (.cells #[] 5)).ownsRow w.heap.size 5 1 (.slice (some ⟨w.heap.size, 0, none⟩) 0 0) 0 []) := World.ownsRow_lit w #[] 0 (Nat.le_refl _) (by unfold maxLen; omega) rfl
        go_wp2
        go_loopw [6, 7] (fun v i wr => ∃ k j cap g : Nat, k ≤ s.size ∧ i = .int .i64 (k : Int) ∧ v = .slice (some ⟨g, 0, none⟩) j cap ∧ 2 * j = k ∧ wr.ownsRow w.heap.size 5 1 (.slice (some ⟨g, 0, none⟩) j cap) j ((hgetL (s.data.toList.take k)).map xb) ∧ Below w.heap.size w wr) (fun _ i _ => s.size - (intOf i).toNat)
        case atStart => exact ⟨0, 0, 0, w.heap.size, Nat.zero_le _, rfl, rfl, rfl, HO.out, (Below.refl _ _).alloc (Nat.le_refl _) _⟩
        case round =>
          obtain ⟨k, j, cap, g, hk, rfl, rfl, hj, hown, hb⟩ := hrel
          have HJ := Lib.hid hj; clear hj
          by_cases hlt : k < s.size
          · have hlt1 : k + 1 < s.size := by have := HE.out; have := HJ.out; omega
            have HOW := Lib.hid hown; clear hown HO
            have hix0 := ix_str s k hlt
            have hix1 := ix_str1 s k hlt1
            have hst := hget_step s k j hlt1 HJ.out
            have xa := isX_at HALL.out k hlt
            have xc := isX_at HALL.out (k + 1) hlt1
            generalize s[k] = a at hix0 hst xa
            generalize s[k + 1] = b at hix1 hst xc
            have da := fun w => worth_yes a w xa
            have db := fun w => worth_yes b w xc
            have pa : xv a ≤ 15 := by have := xv_lt xa; omega
            have pb : xv b ≤ 15 := by have := xv_lt xc; omega
            generalize xv a = p at da hst pa
            generalize xv b = q at db hst pb
            have HS := Lib.hid hst; clear hst xa xc
            have DA := Lib.hid da; clear da
            have DB := Lib.hid db; clear db
            obtain ⟨r, hr⟩ : ∃ r, r = 16 * p + q := ⟨_, rfl⟩
            rw [← hr] at HS
            have hr2 : xb (UInt8.ofNat r) = .int .u8 (r : Int) := by unfold xb; rw [UInt8.toNat_ofNat', Nat.mod_eq_of_lt (by omega)]
            have HR := Lib.hid hr2; clear hr2
            have hj5 : j ≤ 1000000000 := by have := HJ.out; omega
            have hbz := hb.size
            have w1 : IntKind.i64.wrap (16 * (p : Int)) = 16 * (p : Int) := IntWalk.i64_in _ (by omega)
            have w2 : IntKind.i64.wrap ((k : Int) + 1) = (k : Int) + 1 := IntWalk.i64_in _ (by omega)
            have w3 : IntKind.i64.wrap (16 * (p : Int) + (q : Int)) = (r : Int) := by rw [IntWalk.i64_in _ (by omega)]; omega
            have w4 : IntKind.u8.wrap (r : Int) = (r : Int) := IntWalk.u8_in _ (by omega)
            clear hr
            go_wp2
            refine wp_region_noPanic ?_
            refine wp_region_held_drew (S := fun _ => True) (by kernel_rfl) trivial (fun _ => ?_)
            refine give_val (i := 0) (v := ?_) rfl (by kernel_rfl) (by kernel_rfl) (by kernel_rfl) (fun _ _ _ h => h) (by rfl) (fun _ _ => ?_) trivial ?_
            rotate_left
            · (go_simp; try (with_reducible rfl))
            try simp only [Act.put, List.setIfInBounds_toArray, List.set_cons_zero, List.set_cons_succ]
            refine give_val (i := 1) (v := ?_) rfl (by kernel_rfl) (by kernel_rfl) (by kernel_rfl) (fun _ _ _ h => h) (by rfl) (fun _ _ => ?_) trivial ?_
            rotate_left
            · (go_simp; try (with_reducible rfl))
            try simp only [Act.put, List.setIfInBounds_toArray, List.set_cons_zero, List.set_cons_succ]
            refine give_val (i := 2) (v := ?_) rfl (by kernel_rfl) (by kernel_rfl) (by kernel_rfl) (fun _ _ _ h => h) (by rfl) (fun _ _ => ?_) trivial ?_
            rotate_left
            · (go_simp; try (with_reducible rfl))
            try simp only [Act.put, List.setIfInBounds_toArray, List.set_cons_zero, List.set_cons_succ]
            refine give_val (i := 3) (v := ?_) rfl (by kernel_rfl) (by kernel_rfl) (by kernel_rfl) (fun _ _ _ h => h) (by rfl) (fun _ _ => ?_) trivial ?_
            rotate_left
            · (go_simp; try (with_reducible rfl))
            try simp only [Act.put, List.setIfInBounds_toArray, List.set_cons_zero, List.set_cons_succ]
            refine give_call (i := 4) 40 #[.int .u8 (a.toNat : Int)] rfl (by kernel_rfl) (by kernel_rfl) (by kernel_rfl) (fun _ _ _ h => h) (by rfl) (fun u hu => DA.out _) (fun _ _ => ?_) trivial ?_
            · (go_simp; try (with_reducible rfl))
            try simp only [Act.put, List.setIfInBounds_toArray, List.set_cons_zero, List.set_cons_succ]
            refine give_val (i := 5) (v := ?_) rfl (by kernel_rfl) (by kernel_rfl) (by kernel_rfl) (fun _ _ _ h => h) (by rfl) (fun _ _ => ?_) trivial ?_
            rotate_left
            · (go_simp; try (with_reducible rfl))
            try simp only [Act.put, List.setIfInBounds_toArray, List.set_cons_zero, List.set_cons_succ]
            refine give_val (i := 6) (v := ?_) rfl (by kernel_rfl) (by kernel_rfl) (by kernel_rfl) (fun _ _ _ h => h) (by rfl) (fun _ _ => ?_) trivial ?_
            rotate_left
            · (go_simp; try (with_reducible rfl))
            try simp only [Act.put, List.setIfInBounds_toArray, List.set_cons_zero, List.set_cons_succ]
            refine give_val (i := 7) (v := ?_) rfl (by kernel_rfl) (by kernel_rfl) (by kernel_rfl) (fun _ _ _ h => h) (by rfl) (fun _ _ => ?_) trivial ?_
            rotate_left
            · (go_simp; try (with_reducible rfl))
            try simp only [Act.put, List.setIfInBounds_toArray, List.set_cons_zero, List.set_cons_succ]
            refine give_val (i := 8) (v := ?_) rfl (by kernel_rfl) (by kernel_rfl) (by kernel_rfl) (fun _ _ _ h => h) (by rfl) (fun _ _ => ?_) trivial ?_
            rotate_left
            · (go_simp; try (with_reducible rfl))
            try simp only [Act.put, List.setIfInBounds_toArray, List.set_cons_zero, List.set_cons_succ]
            refine give_val (i := 9) (v := ?_) rfl (by kernel_rfl) (by kernel_rfl) (by kernel_rfl) (fun _ _ _ h => h) (by rfl) (fun _ _ => ?_) trivial ?_
            rotate_left
            · (go_simp; try (with_reducible rfl))
            try simp only [Act.put, List.setIfInBounds_toArray, List.set_cons_zero, List.set_cons_succ]
            refine give_call (i := 10) 40 #[.int .u8 (b.toNat : Int)] rfl (by kernel_rfl) (by kernel_rfl) (by kernel_rfl) (fun _ _ _ h => h) (by rfl) (fun u hu => DB.out _) (fun _ _ => ?_) trivial ?_
            · (go_simp; try (with_reducible rfl))
            try simp only [Act.put, List.setIfInBounds_toArray, List.set_cons_zero, List.set_cons_succ]
            refine give_val (i := 11) (v := ?_) rfl (by kernel_rfl) (by kernel_rfl) (by kernel_rfl) (fun _ _ _ h => h) (by rfl) (fun _ _ => ?_) trivial ?_
            rotate_left
            · (go_simp; try (with_reducible rfl))
            try simp only [Act.put, List.setIfInBounds_toArray, List.set_cons_zero, List.set_cons_succ]
            refine give_val (i := 12) (v := ?_) rfl (by kernel_rfl) (by kernel_rfl) (by kernel_rfl) (fun _ _ _ h => h) (by rfl) (fun _ _ => ?_) trivial ?_
            rotate_left
            · (go_simp; try (with_reducible rfl))
            try simp only [Act.put, List.setIfInBounds_toArray, List.set_cons_zero, List.set_cons_succ]
            refine only (i := 13) rfl (by kernel_rfl) (by rfl) (fun K hK => ?_)
            go_simp
            refine hK.out _ _ trivial ?_
            clear hK
            try simp only [Act.put, List.setIfInBounds_toArray, List.set_cons_zero, List.set_cons_succ]
            refine only (i := 14) rfl (by kernel_rfl) (by rfl) (fun K hK => ?_)
            refine wp_append_lies _ _ _ _ (by rfl) w.heap.size 5 i0 _ 1 1 Try.underlying63 hi hz0 hz1 hz2 rfl (by omega) (.slice (some ⟨g, 0, none⟩) j cap) j _ (by rfl) ((HOW.out.alloc _).drew) ⟨wr.heap.size, 0, none⟩ 1 1 [.int .u8 (r : Int)] (by rfl) (by rfl) (World.news_of_block (cs := #[.int .u8 (r : Int)]) (t := 5) (fr := (0, 0)) (heap_alloc_new wr _)) (by simp [Value.oneCell']) (by omega) (by unfold maxLen; omega) (by omega) (by simp; omega) (wr.heap.size + 1) (by simp) ?_
            intro g' cap' w2 hown2 hgrow hat hlt2
            refine hK.out _ _ trivial ?_
            clear hK
            try simp only [Act.put, List.setIfInBounds_toArray, List.set_cons_zero, List.set_cons_succ]
            refine give_val (i := 15) (v := ?_) rfl (by kernel_rfl) (by kernel_rfl) (by kernel_rfl) (fun _ _ _ h => h) (by rfl) (fun _ _ => ?_) trivial ?_
            rotate_left
            · (go_simp; try (with_reducible rfl))
            try simp only [Act.put, List.setIfInBounds_toArray, List.set_cons_zero, List.set_cons_succ]
            refine wpAnyH_done (by kernel_rfl) (NoPanic.normal ?_) _
            have hb2 : Below w.heap.size w w2 := (((hb.alloc hbz _).drew)).grown hgrow (by simp; omega) (by intro q hq; have := own_base HOW.out; simp [Value.ownBlock] at hq; omega)
            have HW2 := Lib.hid hown2; clear hown2 hgrow hat hlt2
            go_wp2
            go_roundw
            case rel => exact ⟨k + 2, j + 1, cap', g', by omega, by go_num, rfl, by have := HJ.out; omega, by rw [HS.out, List.map_append]; have h := HW2.out; rw [← HR.out] at h; exact h, hb2⟩
            case measure => simp [intOf]; omega
          · have hcv : (convert 63 9 (.slice (some ⟨g, 0, none⟩) j cap)).run Try.prog wr = .ok (.string ⟨(hgetL s.data.toList).toArray⟩) wr := by
              have hl : hgetL (s.data.toList.take k) = hgetL s.data.toList := by rw [List.take_of_length_le (by simp; omega)]
              have hlen : (hgetL s.data.toList).length = j := by rw [hgetL_length]; have := HJ.out; simp; omega
              have h := run_convert_bytes_back (P := Try.prog) wr 63 9 5 ⟨g, 0, none⟩ cap (hgetL s.data.toList) Try.underlying63 Try.underlying5 Try.underlying9 (by
                intro i hi
                rw [hl] at hown
                have hc := hown.cellAt i (by omega)
                rw [show (⟨g, 0, none⟩ : Addr).add i = ⟨g, i, none⟩ from by rw [Addr.add_lit, Nat.zero_add], hc]
                simp [xb, hi])
              rw [hlen] at h
              exact h
            clear hown HO
            go_wp2
            go_ret3
            exact ⟨by rw [hgetS_yes HG.out, hgetI_yes HG.out, HG.out]; rfl, hb⟩

end Go.Proofs.Ytdnckiaeeikbhaa
