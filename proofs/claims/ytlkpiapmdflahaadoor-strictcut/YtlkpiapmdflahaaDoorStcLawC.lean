/-
  The law StrictCut: for every schema, message and number, in every world that holds the table of kinds.
-/
import Derived.Test.YtlkpiapmdflahaaDoorStcAwk
import Derived.Test.YtlkpiapmdflahaaDoorStcLen
import Derived.Test.YtlkpiapmdflahaaDoorStcDuo
import Derived.Test.YtlkpiapmdflahaaDoorWirEnc
import Derived.Test.YtlkpiapmdflahaaDoorMsgRead
import Derived.Test.YtlkpiapmdflahaaDoorWirCut
import Derived.Test.YtlkpiapmdflahaaDoorPackBase
import Derived.Deep.DeepCutAuto
import Derived.Test.YtlkpiapmdflahaaDoorMsgCut
namespace Go.Proofs.YtlkpiapmdflahaaDoor
open Go.RowKit

theorem vals_far {w : World} {A : Option Addr} {l : List Item} {p : Nat} {x y : Int} {t : TypeId} (h : Tlvs w A l) (hg : w.heap[p]? = some (.cells #[.int .i64 x, .int .i64 y] t)) (c d : Value) : Tlvs ((w.setCell ⟨p, 0, none⟩ c).setCell ⟨p, 1, none⟩ d) A l := by
  intro i hi
  obtain ⟨a, ha, h0, h1⟩ := h i hi
  have hne : (a.add (i * 2)).block ≠ p := by
    intro e
    generalize (a.add (i * 2)) = q at *
    obtain ⟨b, o, f⟩ := q
    dsimp only at e h1
    subst e
    rw [cell_of_row _ _ _ _ _ _ hg] at h1
    match o with
    | 0 => simp at h1
    | o + 1 => simp at h1
  exact ⟨a, ha, (World.cell?_of_block ((heap_setCell_other _ _ _ _ hne).trans (heap_setCell_other _ _ _ _ hne))).trans h0, (World.cell?_of_block ((heap_setCell_other _ _ _ _ hne).trans (heap_setCell_other _ _ _ _ hne))).trans h1⟩
theorem vals_take {w : World} {A : Option Addr} {l : List Item} (h : Tlvs w A l) (j : Nat) : Tlvs w A (l.take j) := by
  intro i hi
  rw [List.length_take] at hi
  obtain ⟨a, ha, h0, h1⟩ := h i (by omega)
  have e : itemAt (l.take j) i = itemAt l i := by
    rw [itemAt_get (show i < (l.take j).length by rw [List.length_take]; omega), itemAt_get (show i < l.length by omega)]
    simp
  exact ⟨a, ha, by rw [e]; exact h0, by rw [e]; exact h1⟩
theorem cut_head2 (A : Option Addr) (n cap p : Nat) (hp : p ≤ cap) (W : World) : (Instr.slice 26 (.slice A n cap) none (some (.int .i64 (p : Int))) none).run Tryd.prog W = .ok (.slice A p cap) W := by
  obtain ⟨i0, hi, hz0, hz1, hz2⟩ := info_parts Tryd.infoVal
  rw [run_slice_h W 26 A n cap (by kernel_rfl) .i64 (p : Int) (by omega) (by omega), show Tryd.prog.elem 26 = 42 by kernel_rfl, run_sizeOf W hi]
  cases A <;> simp [sliced, Result.andThen, Addr.add]
set_option maxRecDepth 100000 in
set_option maxHeartbeats 3200000 in
theorem scut_long (hdec : DecSpec) (st v : Int) (A : Option Addr) (len cap : Nat) (m : ByteArray) (B : Option Addr) (n c : Nat) (k : Int) (w : World) (hK : Kinds w) (h : 200 < len) :
    Calls Tryd.prog 7 #[.agg #[.int .i64 st, .int .i64 v, .slice A len cap], .agg #[.string m, .slice B n c], .int .i64 k] w fun e w' => e = .returned (.bool true) ∧ Below w.heap.size w w' := by
  have t : decide ((200 : Int) < (len : Int)) = true := by simp; omega
  have HT := Lib.hid (sduo_new w st v A len cap m B n c)
  have HK := Lib.hid (hK.below HT.out.1)
  clear h hK
  go_enter Tryd.func7, Tryd.ntmps7
  go_wp2_with fail
  generalize (w.alloc (.cells #[.int .i64 st, .int .i64 v, .slice A len cap] 24)).alloc (.cells #[.string m, .slice B n c] 28) = U at *
  refine (sawake_any hdec _ HK.out).mono ?_
  rintro e w1 ⟨rfl, hb1⟩
  have HT1 := Lib.hid (HT.out.below hb1)
  have HK1 := Lib.hid (HK.out.below hb1)
  obtain ⟨b0, b1, b2⟩ := obj_cells3 HT1.out.2.1
  clear hb1
  go_wp2_with fail
  refine (sawake_any hdec _ HK1.out).mono ?_
  rintro e w2 ⟨rfl, hb2⟩
  have HB2 := Lib.hid (hbt HT1.out.1 hb2)
  clear hb2 b0 b1 b2
  go_wp2
  go_ret
  exact ⟨rfl, HB2.out⟩
set_option maxRecDepth 100000 in
set_option maxHeartbeats 3200000 in
theorem scut_great (hdec : DecSpec) (st v : Int) (A : Option Addr) (len cap : Nat) (m : ByteArray) (B : Option Addr) (c : Nat) (l : List Item) (k : Int) (w : World) (hK : Kinds w) (hL : Tlvs w B l) (hf : ∀ x ∈ l, x.2.size ≤ maxLen) (h : ¬ 200 < len) (hg : greatM m l = true) :
    Calls Tryd.prog 7 #[.agg #[.int .i64 st, .int .i64 v, .slice A len cap], .agg #[.string m, .slice B l.length c], .int .i64 k] w fun e w' => e = .returned (.bool true) ∧ Below w.heap.size w w' := by
  have t : decide ((200 : Int) < (len : Int)) = false := by simp; omega
  have HT := Lib.hid (sduo_new w st v A len cap m B l.length c)
  have HK := Lib.hid (hK.below HT.out.1)
  have HL := Lib.hid (hL.below HT.out.1)
  have HG := Lib.hid (fun W hW => mgreat_any m B c l W hW hf)
  rw [hg] at HG
  clear h hK hL hf hg
  generalize l.length = n at *
  go_enter Tryd.func7, Tryd.ntmps7
  go_wp2_with fail
  generalize (w.alloc (.cells #[.int .i64 st, .int .i64 v, .slice A len cap] 24)).alloc (.cells #[.string m, .slice B n c] 28) = U at *
  refine (sawake_any hdec _ HK.out).mono ?_
  rintro e w1 ⟨rfl, hb1⟩
  have HT1 := Lib.hid (HT.out.below hb1)
  have HK1 := Lib.hid (HK.out.below hb1)
  have HL1 := Lib.hid (HL.out.below hb1)
  obtain ⟨b0, b1, b2⟩ := obj_cells3 HT1.out.2.1
  obtain ⟨b3, b4, _, _⟩ := obj_cells HT1.out.2.2
  clear hb1
  go_wp2_with fail
  refine (HG.out _ HL1.out).mono ?_
  rintro e w2 ⟨rfl, hb2⟩
  have HB2 := Lib.hid (hbt HT1.out.1 hb2)
  have HK2 := Lib.hid (HK1.out.below hb2)
  clear hb2 b0 b1 b2 b3 b4
  go_wp2_with fail
  refine (sawake_any hdec _ HK2.out).mono ?_
  rintro e w3 ⟨rfl, hb3⟩
  have HB3 := Lib.hid (hbt HB2.out hb3)
  clear hb3
  go_wp2
  go_ret
  exact ⟨rfl, HB3.out⟩
set_option maxRecDepth 100000 in
set_option maxHeartbeats 12800000 in
theorem scut_main (hdec : DecSpec) (st v : Int) (A : Option Addr) (cap : Nat) (sl : List Sp) (m : ByteArray) (B : Option Addr) (c : Nat) (l : List Item) (k : Int) (w : World) (hK : Kinds w) (hI : Spl w A sl) (hL : Tlvs w B l) (hf : ∀ x ∈ l, x.2.size ≤ maxLen) (h : ¬ 200 < sl.length) (hg : greatM m l = false) (hcap : l.length ≤ c) :
    Calls Tryd.prog 7 #[.agg #[.int .i64 st, .int .i64 v, .slice A sl.length cap], .agg #[.string m, .slice B l.length c], .int .i64 k] w fun e w' => e = .returned (.bool true) ∧ Below w.heap.size w w' := by
  have t : decide ((200 : Int) < (sl.length : Int)) = false := by simp; omega
  have hn : sl.length ≤ 1000 := by omega
  have hl : l.length ≤ 200 := (great_in hg).2.1
  have HT := Lib.hid (sduo_new w st v A sl.length cap m B l.length c)
  have HK := Lib.hid (hK.below HT.out.1)
  have HL := Lib.hid (hL.below HT.out.1)
  have HI := Lib.hid (hI.below HT.out.1)
  have HG := Lib.hid (fun W hW => mgreat_any m B c l W hW hf)
  rw [hg] at HG
  have HC := Lib.hid (fun W h0 h1 h2 => wenc_any st v A cap sl m B c l W h0 h1 h2 hn (by omega) hf)
  have HN : Hid ((msgN st v sl m l).1 ≠ 0 → encS st v sl m l = ⟨#[]⟩) := fun e => encS_no (fun e1 => e (by rw [e1]))
  have HD : Hid ((msgN st v sl m l).1 = 0 → (msgN st v sl m l).2 = 0 ∧ (encS st v sl m l).size ≤ 500000 ∧ ∀ q : Nat, q < (encS st v sl m l).size → ∃ Rm Rl z2', Rl.length ≤ l.length ∧ Rl = l.take Rl.length ∧ ∀ W, Kinds W → Spl W A sl → Calls Tryd.prog 10 #[.agg #[.int .i64 st, .int .i64 v, .slice A sl.length cap], .string ((encS st v sl m l).extract 0 q)] W fun e w' => DecTo (Rm, Rl, (2, z2')) W w' e) := fun e => by
    have h1 := wmsgN_first e
    have h2 := enc_size h1 hl
    refine ⟨by rw [h1], h2, fun q hq => ?_⟩
    obtain ⟨j, j1, j2⟩ := dec_cut h1 hq
    have hsz : ((encS st v sl m l).extract 0 q).size ≤ 1000000 := by rw [cut_take, mk_size, List.length_take, list_size]; omega
    have hd := fun W k1 k2 => hdec st v A cap sl ((encS st v sl m l).extract 0 q) W k1 k2 hn hsz
    generalize decN st v sl ((encS st v sl m l).extract 0 q) = R at *
    obtain ⟨Rm, Rl, z2, z2'⟩ := R
    dsimp only at j1 j2
    subst j2
    refine ⟨Rm, Rl, z2', ?_, ?_, hd⟩
    · rw [j1, List.length_take]; omega
    · rw [j1, List.length_take, List.take_eq_take_iff]; omega
  have HS : Hid (∀ (Rl : List Item) A' c' d W, Rl.length ≤ l.length → Rl = l.take Rl.length → Tlvs W A' Rl → Tlvs W B l → Calls Tryd.prog 12 #[.agg #[.string ⟨#[]⟩, .slice A' Rl.length c'], .agg #[.string ⟨#[]⟩, .slice B Rl.length d]] W fun e w' => e = .returned (.bool true) ∧ Below W.heap.size W w') := fun Rl A' c' d W h0 h1 h2 h3 => by
    have h4 := vals_take h3 Rl.length
    rw [← h1] at h4
    have := mrsame_any ⟨#[]⟩ A' c' Rl ⟨#[]⟩ B d Rl W h2 h4 (by omega)
    rw [sameM_refl] at this
    exact this
  have HCAP := Lib.hid (fun p (hp : p ≤ l.length) => cut_head2 B l.length c p (Nat.le_trans hp hcap))
  clear h hK hL hI hf hg hl hn hcap HN
  unfold DecTo at HD
  dsimp only at HD
  generalize encS st v sl m l = xb at *
  generalize (msgN st v sl m l).1 = z at *
  generalize (msgN st v sl m l).2 = z' at *
  generalize sl.length = len at *
  generalize l.length = n at *
  go_enter Tryd.func7, Tryd.ntmps7
  go_wp2_with fail
  generalize (w.alloc (.cells #[.int .i64 st, .int .i64 v, .slice A len cap] 24)).alloc (.cells #[.string m, .slice B n c] 28) = U at *
  refine (sawake_any hdec _ HK.out).mono ?_
  rintro e x1 ⟨rfl, hb1⟩
  have HT1 := Lib.hid (HT.out.below hb1)
  have HK1 := Lib.hid (HK.out.below hb1)
  have HL1 := Lib.hid (HL.out.below hb1)
  have HI1 := Lib.hid (HI.out.below hb1)
  obtain ⟨b0, b1, b2⟩ := obj_cells3 HT1.out.2.1
  obtain ⟨b3, b4, _, _⟩ := obj_cells HT1.out.2.2
  clear hb1 HT HK HL HI
  go_wp2_with fail
  refine (HG.out _ HL1.out).mono ?_
  rintro e x2 ⟨rfl, hb2⟩
  have HT2 := Lib.hid (HT1.out.below hb2)
  have HK2 := Lib.hid (HK1.out.below hb2)
  have HL2 := Lib.hid (HL1.out.below hb2)
  have HI2 := Lib.hid (HI1.out.below hb2)
  clear hb2 b0 b1 b2 b3 b4 HT1 HK1 HL1 HI1
  obtain ⟨b0, b1, b2⟩ := obj_cells3 HT2.out.2.1
  obtain ⟨b3, b4, _, _⟩ := obj_cells HT2.out.2.2
  go_wp2_with fail
  refine (HC.out _ HK2.out HI2.out HL2.out).mono ?_
  rintro e x3 ⟨rfl, hb3⟩
  have hal := hbt hb3 (below_al x3 (.cells #[.int .i64 z, .int .i64 z'] 31))
  have HT4 := Lib.hid (HT2.out.below hal)
  have HK4 := Lib.hid (HK2.out.below hal)
  have HL4 := Lib.hid (HL2.out.below hal)
  have HI4 := Lib.hid (HI2.out.below hal)
  clear b0 b1 b2 b3 b4
  obtain ⟨b0, b1, b2⟩ := obj_cells3 (HT2.out.below hb3).2.1
  have hz := obj_lt (HT2.out.below hb3).2.1
  clear hb3 hal HT2 HK2 HL2 HI2
  by_cases hz0 : z = 0
  · subst hz0
    obtain ⟨rfl, hxz, hd⟩ := HD.out rfl
    by_cases hk0 : k < 0
    · have tk : decide (k < 0) = true := by simpa using hk0
      clear hd HD
      go_wp2
      go_ret
      exact ⟨rfl, HT4.out.1⟩
    · by_cases hk1 : (xb.size : Int) ≤ k
      · have tk : decide (k < 0) = false := by simpa using hk0
        have tk1 : decide ((xb.size : Int) ≤ k) = true := by simpa using hk1
        clear hd HD
        go_wp2
        go_ret
        exact ⟨rfl, HT4.out.1⟩
      · obtain ⟨q, rfl⟩ := Int.eq_ofNat_of_zero_le (show 0 ≤ k by omega)
        have hq : q < xb.size := by omega
        obtain ⟨Rm, Rl, z2', r1, r2, hdd⟩ := hd q hq
        have HDD := Lib.hid hdd
        have hcut := cut_str xb q (by omega)
        have HR := Lib.hid r1
        have HR2 := Lib.hid r2
        have tk1 : decide ((xb.size : Int) ≤ (q : Int)) = false := by simp; omega
        clear hd HD hdd r1 r2 hk0 hk1
        generalize xb.extract 0 q = y at *
        generalize hrn : Rl.length = rn at *
        have HRN := Lib.hid hrn
        clear hrn
        have HDX : Hid (∀ W, Kinds W → Spl W A sl → Calls Tryd.prog 10 #[.agg #[.int .i64 st, .int .i64 v, .slice A len cap], .string y] W fun e w' => ∃ x, e = .returned x ∧ ∃ A' c', x = .tuple #[.agg #[.string Rm, .slice A' rn c'], .agg #[.int .i64 2, .int .i64 z2']] ∧ Tlvs w' A' Rl ∧ Below W.heap.size W w') := fun W k1 k2 => (HDD.out W k1 k2).mono fun e w' he => by
          obtain ⟨A', c', he, ht, hb⟩ := he
          exact ⟨_, he, A', c', rfl, ht, hb⟩
        go_upto_region 6 with fail
        generalize x3.alloc (.cells #[.int .i64 0, .int .i64 0] 31) = X4 at *
        generalize x3.heap.size = gf at *
        clear b0 b1 b2 hz
        go_cut [9, 10] (fun s9 s10 wx => ∃ (p p' : Nat) (A5 : Option Addr) (c5 : Nat), s9 = .pointer (some ⟨p, 0, none⟩) ∧ s10 = .pointer (some ⟨p', 0, none⟩) ∧ MBox wx p Rm A5 rn c5 ∧ Tlvs wx A5 Rl ∧ wx.heap[p']? = some (.cells #[.int .i64 2, .int .i64 z2'] 31) ∧ Below X4.heap.size X4 wx)
        case first =>
          refine wp_region_noPanic ?_
          refine wp_region_held_drew (S := (fun u => Below X4.heap.size X4 u)) (by kernel_rfl) ((Below.refl _ _).drew) (fun hS => ?_)
          refine give_val (i := 0) (v := ?_) rfl (by kernel_rfl) (by kernel_rfl) (by kernel_rfl) (fun _ _ _ h => h) (by rfl) (fun u hu => ?_) hS ?_
          rotate_left
          · ((have hT := HT4.out.below hu; obtain ⟨b0, b1, b2⟩ := obj_cells3 hT.2.1; clear hT); go_simp; try (with_reducible rfl))
          try simp only [Act.put, List.setIfInBounds_toArray, List.set_cons_zero, List.set_cons_succ]
          refine give_val (i := 1) (v := ?_) rfl (by kernel_rfl) (by kernel_rfl) (by kernel_rfl) (fun _ _ _ h => h) (by rfl) (fun u hu => ?_) hS ?_
          rotate_left
          · ((have hT := HT4.out.below hu; obtain ⟨b0, b1, b2⟩ := obj_cells3 hT.2.1; clear hT); go_simp; try (with_reducible rfl))
          try simp only [Act.put, List.setIfInBounds_toArray, List.set_cons_zero, List.set_cons_succ]
          refine give_val (i := 2) (v := ?_) rfl (by kernel_rfl) (by kernel_rfl) (by kernel_rfl) (fun _ _ _ h => h) (by rfl) (fun u hu => ?_) hS ?_
          rotate_left
          · ((have hT := HT4.out.below hu; obtain ⟨b0, b1, b2⟩ := obj_cells3 hT.2.1; clear hT); go_simp; try (with_reducible rfl))
          try simp only [Act.put, List.setIfInBounds_toArray, List.set_cons_zero, List.set_cons_succ]
          refine give_val (i := 3) (v := ?_) rfl (by kernel_rfl) (by kernel_rfl) (by kernel_rfl) (fun _ _ _ h => h) (by rfl) (fun u hu => ?_) hS ?_
          rotate_left
          · ((have hT := HT4.out.below hu; obtain ⟨b0, b1, b2⟩ := obj_cells3 hT.2.1; clear hT); go_simp; try (with_reducible rfl))
          try simp only [Act.put, List.setIfInBounds_toArray, List.set_cons_zero, List.set_cons_succ]
          refine wpAnyH_ready (rs := [4, 8, 9]) (by kernel_rfl) (by simp) (arm_some (i := 4) 10 #[.agg #[.int .i64 st, .int .i64 v, .slice A len cap], .string y] rfl (by rfl) (HDX.out _ (HK4.out.below hS) (HI4.out.below hS)) ?_ ?_ (arm_alloc (i := 8) (.cells #[.string ⟨#[]⟩, .slice none 0 0] 28) rfl (by rfl) ?_ ?_ (arm_alloc (i := 9) (.cells #[.int .i64 0, .int .i64 0] 31) rfl (by rfl) ?_ ?_ AllReadyH.nil)))
          · (go_simp; try (with_reducible rfl))
          · intro v4 u' hT
            obtain ⟨A4, c4, rfl, ht4, hb⟩ := hT
            have hS' : (fun u => Below X4.heap.size X4 u) u' := hbt hS hb
            refine ⟨hS', ?_⟩
            clear hS hb
            have hS := hS'; clear hS'
            rename World => u
            try simp only [Act.put, List.setIfInBounds_toArray, List.set_cons_zero, List.set_cons_succ]
            refine give_val (i := 5) (v := ?_) rfl (by kernel_rfl) (by kernel_rfl) (by kernel_rfl) (fun _ _ _ h => h) (by rfl) (fun u hu => ?_) hS ?_
            rotate_left
            · ((have hT := HT4.out.below hu; obtain ⟨b0, b1, b2⟩ := obj_cells3 hT.2.1; clear hT); go_simp; try (with_reducible rfl))
            try simp only [Act.put, List.setIfInBounds_toArray, List.set_cons_zero, List.set_cons_succ]
            refine give_val (i := 6) (v := ?_) rfl (by kernel_rfl) (by kernel_rfl) (by kernel_rfl) (fun _ _ _ h => h) (by rfl) (fun u hu => ?_) hS ?_
            rotate_left
            · ((have hT := HT4.out.below hu; obtain ⟨b0, b1, b2⟩ := obj_cells3 hT.2.1; clear hT); go_simp; try (with_reducible rfl))
            try simp only [Act.put, List.setIfInBounds_toArray, List.set_cons_zero, List.set_cons_succ]
            refine give_val (i := 7) (v := ?_) rfl (by kernel_rfl) (by kernel_rfl) (by kernel_rfl) (fun _ _ _ h => h) (by rfl) (fun u hu => ?_) hS ?_
            rotate_left
            · ((have hT := HT4.out.below hu; obtain ⟨b0, b1, b2⟩ := obj_cells3 hT.2.1; clear hT); go_simp; try (with_reducible rfl))
            try simp only [Act.put, List.setIfInBounds_toArray, List.set_cons_zero, List.set_cons_succ]
            refine wpAnyH_ready (rs := [8, 9]) (by kernel_rfl) (by simp) (arm_alloc (i := 8) (.cells #[.string ⟨#[]⟩, .slice none 0 0] 28) rfl (by rfl) ?_ ?_ (arm_alloc (i := 9) (.cells #[.int .i64 0, .int .i64 0] 31) rfl (by rfl) ?_ ?_ AllReadyH.nil))
            · (go_simp; try (with_reducible rfl))
            · intro p8 u' hb ho8 hp8
              replace hp8 := Nat.le_trans (hS.size) hp8
              have hS' : (fun u => Below X4.heap.size X4 u) u' := hbt hS hb
              refine ⟨hS', ?_⟩
              replace ht4 := ht4.below hb
              clear hS hb
              have hS := hS'; clear hS'
              rename World => u
              try simp only [Act.put, List.setIfInBounds_toArray, List.set_cons_zero, List.set_cons_succ]
              refine wpAnyH_ready (rs := [9]) (by kernel_rfl) (by simp) (arm_alloc (i := 9) (.cells #[.int .i64 0, .int .i64 0] 31) rfl (by rfl) ?_ ?_ AllReadyH.nil)
              · (go_simp; try (with_reducible rfl))
              · intro p9 u' hb ho9 hp9
                have ne8_9 : p8 ≠ p9 := by have := obj_lt ho8; omega
                replace hp9 := Nat.le_trans (hS.size) hp9
                have hS' : (fun u => Below X4.heap.size X4 u) u' := hbt hS hb
                refine ⟨hS', ?_⟩
                replace ho8 := obj_below ho8 hb
                replace ht4 := ht4.below hb
                clear hS hb
                have hS := hS'; clear hS'
                rename World => u
                try simp only [Act.put, List.setIfInBounds_toArray, List.set_cons_zero, List.set_cons_succ]
                obtain ⟨d0, d1, f0, f1⟩ := obj_cells ho8
                have hr8 := obj_set2 ho8 (.string Rm) (.slice A4 rn c4)
                have ho9' := obj_set_other ho9 (Ne.symm ne8_9) (.string Rm) (.slice A4 rn c4)
                have hv4 := vals_store2 ht4 ho8 Rm A4 rn c4
                have hS4 : Below X4.heap.size X4 _ := below_set2 hS hp8 (.string Rm) (.slice A4 rn c4)
                refine only (i := 10) rfl (by kernel_rfl) (by rfl) (fun K hK => ?_)
                go_simp
                refine hK.out _ _ hS4 ?_
                clear hK
                try simp only [Act.put, List.setIfInBounds_toArray, List.set_cons_zero, List.set_cons_succ]
                clear d0 d1 f0 f1 hS ho8 ho9 ht4
                generalize ((u.setCell _ _).setCell _ _) = u4 at *
                obtain ⟨d0, d1, f0, f1⟩ := obj_cells ho9'
                have hr9 := obj_set2 ho9' (.int .i64 2) (.int .i64 z2')
                have hr8' := obj_set_other hr8 ne8_9 (.int .i64 2) (.int .i64 z2')
                have hv5 := vals_far hv4 ho9' (.int .i64 2) (.int .i64 z2')
                have hS5 : Below X4.heap.size X4 _ := below_set2 hS4 hp9 (.int .i64 2) (.int .i64 z2')
                refine only (i := 11) rfl (by kernel_rfl) (by rfl) (fun K hK => ?_)
                go_simp
                refine hK.out _ _ hS5 ?_
                clear hK
                try simp only [Act.put, List.setIfInBounds_toArray, List.set_cons_zero, List.set_cons_succ]
                refine wpAnyH_done (by kernel_rfl) (NoPanic.normal ?_) _
                go_wp2_with fail
                go_meet
                exact ⟨p8, p9, A4, c4, rfl, rfl, hr8', hv5, hr9, hS5⟩
            · (go_simp; try (with_reducible rfl))
            · intro p9 u' hb ho9 hp9
              replace hp9 := Nat.le_trans (hS.size) hp9
              have hS' : (fun u => Below X4.heap.size X4 u) u' := hbt hS hb
              refine ⟨hS', ?_⟩
              replace ht4 := ht4.below hb
              clear hS hb
              have hS := hS'; clear hS'
              rename World => u
              try simp only [Act.put, List.setIfInBounds_toArray, List.set_cons_zero, List.set_cons_succ]
              refine wpAnyH_ready (rs := [8]) (by kernel_rfl) (by simp) (arm_alloc (i := 8) (.cells #[.string ⟨#[]⟩, .slice none 0 0] 28) rfl (by rfl) ?_ ?_ AllReadyH.nil)
              · (go_simp; try (with_reducible rfl))
              · intro p8 u' hb ho8 hp8
                have ne8_9 : p8 ≠ p9 := by have := obj_lt ho9; omega
                replace hp8 := Nat.le_trans (hS.size) hp8
                have hS' : (fun u => Below X4.heap.size X4 u) u' := hbt hS hb
                refine ⟨hS', ?_⟩
                replace ho9 := obj_below ho9 hb
                replace ht4 := ht4.below hb
                clear hS hb
                have hS := hS'; clear hS'
                rename World => u
                try simp only [Act.put, List.setIfInBounds_toArray, List.set_cons_zero, List.set_cons_succ]
                obtain ⟨d0, d1, f0, f1⟩ := obj_cells ho8
                have hr8 := obj_set2 ho8 (.string Rm) (.slice A4 rn c4)
                have ho9' := obj_set_other ho9 (Ne.symm ne8_9) (.string Rm) (.slice A4 rn c4)
                have hv4 := vals_store2 ht4 ho8 Rm A4 rn c4
                have hS4 : Below X4.heap.size X4 _ := below_set2 hS hp8 (.string Rm) (.slice A4 rn c4)
                refine only (i := 10) rfl (by kernel_rfl) (by rfl) (fun K hK => ?_)
                go_simp
                refine hK.out _ _ hS4 ?_
                clear hK
                try simp only [Act.put, List.setIfInBounds_toArray, List.set_cons_zero, List.set_cons_succ]
                clear d0 d1 f0 f1 hS ho8 ho9 ht4
                generalize ((u.setCell _ _).setCell _ _) = u4 at *
                obtain ⟨d0, d1, f0, f1⟩ := obj_cells ho9'
                have hr9 := obj_set2 ho9' (.int .i64 2) (.int .i64 z2')
                have hr8' := obj_set_other hr8 ne8_9 (.int .i64 2) (.int .i64 z2')
                have hv5 := vals_far hv4 ho9' (.int .i64 2) (.int .i64 z2')
                have hS5 : Below X4.heap.size X4 _ := below_set2 hS4 hp9 (.int .i64 2) (.int .i64 z2')
                refine only (i := 11) rfl (by kernel_rfl) (by rfl) (fun K hK => ?_)
                go_simp
                refine hK.out _ _ hS5 ?_
                clear hK
                try simp only [Act.put, List.setIfInBounds_toArray, List.set_cons_zero, List.set_cons_succ]
                refine wpAnyH_done (by kernel_rfl) (NoPanic.normal ?_) _
                go_wp2_with fail
                go_meet
                exact ⟨p8, p9, A4, c4, rfl, rfl, hr8', hv5, hr9, hS5⟩
          · (go_simp; try (with_reducible rfl))
          · intro p8 u' hb ho8 hp8
            replace hp8 := Nat.le_trans (hS.size) hp8
            have hS' : (fun u => Below X4.heap.size X4 u) u' := hbt hS hb
            refine ⟨hS', ?_⟩
            clear hS hb
            have hS := hS'; clear hS'
            rename World => u
            try simp only [Act.put, List.setIfInBounds_toArray, List.set_cons_zero, List.set_cons_succ]
            refine wpAnyH_ready (rs := [4, 9]) (by kernel_rfl) (by simp) (arm_some (i := 4) 10 #[.agg #[.int .i64 st, .int .i64 v, .slice A len cap], .string y] rfl (by rfl) (HDX.out _ (HK4.out.below hS) (HI4.out.below hS)) ?_ ?_ (arm_alloc (i := 9) (.cells #[.int .i64 0, .int .i64 0] 31) rfl (by rfl) ?_ ?_ AllReadyH.nil))
            · (go_simp; try (with_reducible rfl))
            · intro v4 u' hT
              obtain ⟨A4, c4, rfl, ht4, hb⟩ := hT
              have hS' : (fun u => Below X4.heap.size X4 u) u' := hbt hS hb
              refine ⟨hS', ?_⟩
              replace ho8 := obj_below ho8 hb
              clear hS hb
              have hS := hS'; clear hS'
              rename World => u
              try simp only [Act.put, List.setIfInBounds_toArray, List.set_cons_zero, List.set_cons_succ]
              refine give_val (i := 5) (v := ?_) rfl (by kernel_rfl) (by kernel_rfl) (by kernel_rfl) (fun _ _ _ h => h) (by rfl) (fun u hu => ?_) hS ?_
              rotate_left
              · ((have hT := HT4.out.below hu; obtain ⟨b0, b1, b2⟩ := obj_cells3 hT.2.1; clear hT); go_simp; try (with_reducible rfl))
              try simp only [Act.put, List.setIfInBounds_toArray, List.set_cons_zero, List.set_cons_succ]
              refine give_val (i := 6) (v := ?_) rfl (by kernel_rfl) (by kernel_rfl) (by kernel_rfl) (fun _ _ _ h => h) (by rfl) (fun u hu => ?_) hS ?_
              rotate_left
              · ((have hT := HT4.out.below hu; obtain ⟨b0, b1, b2⟩ := obj_cells3 hT.2.1; clear hT); go_simp; try (with_reducible rfl))
              try simp only [Act.put, List.setIfInBounds_toArray, List.set_cons_zero, List.set_cons_succ]
              refine give_val (i := 7) (v := ?_) rfl (by kernel_rfl) (by kernel_rfl) (by kernel_rfl) (fun _ _ _ h => h) (by rfl) (fun u hu => ?_) hS ?_
              rotate_left
              · ((have hT := HT4.out.below hu; obtain ⟨b0, b1, b2⟩ := obj_cells3 hT.2.1; clear hT); go_simp; try (with_reducible rfl))
              try simp only [Act.put, List.setIfInBounds_toArray, List.set_cons_zero, List.set_cons_succ]
              refine wpAnyH_ready (rs := [9]) (by kernel_rfl) (by simp) (arm_alloc (i := 9) (.cells #[.int .i64 0, .int .i64 0] 31) rfl (by rfl) ?_ ?_ AllReadyH.nil)
              · (go_simp; try (with_reducible rfl))
              · intro p9 u' hb ho9 hp9
                have ne8_9 : p8 ≠ p9 := by have := obj_lt ho8; omega
                replace hp9 := Nat.le_trans (hS.size) hp9
                have hS' : (fun u => Below X4.heap.size X4 u) u' := hbt hS hb
                refine ⟨hS', ?_⟩
                replace ho8 := obj_below ho8 hb
                replace ht4 := ht4.below hb
                clear hS hb
                have hS := hS'; clear hS'
                rename World => u
                try simp only [Act.put, List.setIfInBounds_toArray, List.set_cons_zero, List.set_cons_succ]
                obtain ⟨d0, d1, f0, f1⟩ := obj_cells ho8
                have hr8 := obj_set2 ho8 (.string Rm) (.slice A4 rn c4)
                have ho9' := obj_set_other ho9 (Ne.symm ne8_9) (.string Rm) (.slice A4 rn c4)
                have hv4 := vals_store2 ht4 ho8 Rm A4 rn c4
                have hS4 : Below X4.heap.size X4 _ := below_set2 hS hp8 (.string Rm) (.slice A4 rn c4)
                refine only (i := 10) rfl (by kernel_rfl) (by rfl) (fun K hK => ?_)
                go_simp
                refine hK.out _ _ hS4 ?_
                clear hK
                try simp only [Act.put, List.setIfInBounds_toArray, List.set_cons_zero, List.set_cons_succ]
                clear d0 d1 f0 f1 hS ho8 ho9 ht4
                generalize ((u.setCell _ _).setCell _ _) = u4 at *
                obtain ⟨d0, d1, f0, f1⟩ := obj_cells ho9'
                have hr9 := obj_set2 ho9' (.int .i64 2) (.int .i64 z2')
                have hr8' := obj_set_other hr8 ne8_9 (.int .i64 2) (.int .i64 z2')
                have hv5 := vals_far hv4 ho9' (.int .i64 2) (.int .i64 z2')
                have hS5 : Below X4.heap.size X4 _ := below_set2 hS4 hp9 (.int .i64 2) (.int .i64 z2')
                refine only (i := 11) rfl (by kernel_rfl) (by rfl) (fun K hK => ?_)
                go_simp
                refine hK.out _ _ hS5 ?_
                clear hK
                try simp only [Act.put, List.setIfInBounds_toArray, List.set_cons_zero, List.set_cons_succ]
                refine wpAnyH_done (by kernel_rfl) (NoPanic.normal ?_) _
                go_wp2_with fail
                go_meet
                exact ⟨p8, p9, A4, c4, rfl, rfl, hr8', hv5, hr9, hS5⟩
            · (go_simp; try (with_reducible rfl))
            · intro p9 u' hb ho9 hp9
              have ne8_9 : p8 ≠ p9 := by have := obj_lt ho8; omega
              replace hp9 := Nat.le_trans (hS.size) hp9
              have hS' : (fun u => Below X4.heap.size X4 u) u' := hbt hS hb
              refine ⟨hS', ?_⟩
              replace ho8 := obj_below ho8 hb
              clear hS hb
              have hS := hS'; clear hS'
              rename World => u
              try simp only [Act.put, List.setIfInBounds_toArray, List.set_cons_zero, List.set_cons_succ]
              refine wpAnyH_ready (rs := [4]) (by kernel_rfl) (by simp) (arm_some (i := 4) 10 #[.agg #[.int .i64 st, .int .i64 v, .slice A len cap], .string y] rfl (by rfl) (HDX.out _ (HK4.out.below hS) (HI4.out.below hS)) ?_ ?_ AllReadyH.nil)
              · (go_simp; try (with_reducible rfl))
              · intro v4 u' hT
                obtain ⟨A4, c4, rfl, ht4, hb⟩ := hT
                have hS' : (fun u => Below X4.heap.size X4 u) u' := hbt hS hb
                refine ⟨hS', ?_⟩
                replace ho8 := obj_below ho8 hb
                replace ho9 := obj_below ho9 hb
                clear hS hb
                have hS := hS'; clear hS'
                rename World => u
                try simp only [Act.put, List.setIfInBounds_toArray, List.set_cons_zero, List.set_cons_succ]
                refine give_val (i := 5) (v := ?_) rfl (by kernel_rfl) (by kernel_rfl) (by kernel_rfl) (fun _ _ _ h => h) (by rfl) (fun u hu => ?_) hS ?_
                rotate_left
                · ((have hT := HT4.out.below hu; obtain ⟨b0, b1, b2⟩ := obj_cells3 hT.2.1; clear hT); go_simp; try (with_reducible rfl))
                try simp only [Act.put, List.setIfInBounds_toArray, List.set_cons_zero, List.set_cons_succ]
                refine give_val (i := 6) (v := ?_) rfl (by kernel_rfl) (by kernel_rfl) (by kernel_rfl) (fun _ _ _ h => h) (by rfl) (fun u hu => ?_) hS ?_
                rotate_left
                · ((have hT := HT4.out.below hu; obtain ⟨b0, b1, b2⟩ := obj_cells3 hT.2.1; clear hT); go_simp; try (with_reducible rfl))
                try simp only [Act.put, List.setIfInBounds_toArray, List.set_cons_zero, List.set_cons_succ]
                refine give_val (i := 7) (v := ?_) rfl (by kernel_rfl) (by kernel_rfl) (by kernel_rfl) (fun _ _ _ h => h) (by rfl) (fun u hu => ?_) hS ?_
                rotate_left
                · ((have hT := HT4.out.below hu; obtain ⟨b0, b1, b2⟩ := obj_cells3 hT.2.1; clear hT); go_simp; try (with_reducible rfl))
                try simp only [Act.put, List.setIfInBounds_toArray, List.set_cons_zero, List.set_cons_succ]
                obtain ⟨d0, d1, f0, f1⟩ := obj_cells ho8
                have hr8 := obj_set2 ho8 (.string Rm) (.slice A4 rn c4)
                have ho9' := obj_set_other ho9 (Ne.symm ne8_9) (.string Rm) (.slice A4 rn c4)
                have hv4 := vals_store2 ht4 ho8 Rm A4 rn c4
                have hS4 : Below X4.heap.size X4 _ := below_set2 hS hp8 (.string Rm) (.slice A4 rn c4)
                refine only (i := 10) rfl (by kernel_rfl) (by rfl) (fun K hK => ?_)
                go_simp
                refine hK.out _ _ hS4 ?_
                clear hK
                try simp only [Act.put, List.setIfInBounds_toArray, List.set_cons_zero, List.set_cons_succ]
                clear d0 d1 f0 f1 hS ho8 ho9 ht4
                generalize ((u.setCell _ _).setCell _ _) = u4 at *
                obtain ⟨d0, d1, f0, f1⟩ := obj_cells ho9'
                have hr9 := obj_set2 ho9' (.int .i64 2) (.int .i64 z2')
                have hr8' := obj_set_other hr8 ne8_9 (.int .i64 2) (.int .i64 z2')
                have hv5 := vals_far hv4 ho9' (.int .i64 2) (.int .i64 z2')
                have hS5 : Below X4.heap.size X4 _ := below_set2 hS4 hp9 (.int .i64 2) (.int .i64 z2')
                refine only (i := 11) rfl (by kernel_rfl) (by rfl) (fun K hK => ?_)
                go_simp
                refine hK.out _ _ hS5 ?_
                clear hK
                try simp only [Act.put, List.setIfInBounds_toArray, List.set_cons_zero, List.set_cons_succ]
                refine wpAnyH_done (by kernel_rfl) (NoPanic.normal ?_) _
                go_wp2_with fail
                go_meet
                exact ⟨p8, p9, A4, c4, rfl, rfl, hr8', hv5, hr9, hS5⟩
          · (go_simp; try (with_reducible rfl))
          · intro p9 u' hb ho9 hp9
            replace hp9 := Nat.le_trans (hS.size) hp9
            have hS' : (fun u => Below X4.heap.size X4 u) u' := hbt hS hb
            refine ⟨hS', ?_⟩
            clear hS hb
            have hS := hS'; clear hS'
            rename World => u
            try simp only [Act.put, List.setIfInBounds_toArray, List.set_cons_zero, List.set_cons_succ]
            refine wpAnyH_ready (rs := [4, 8]) (by kernel_rfl) (by simp) (arm_some (i := 4) 10 #[.agg #[.int .i64 st, .int .i64 v, .slice A len cap], .string y] rfl (by rfl) (HDX.out _ (HK4.out.below hS) (HI4.out.below hS)) ?_ ?_ (arm_alloc (i := 8) (.cells #[.string ⟨#[]⟩, .slice none 0 0] 28) rfl (by rfl) ?_ ?_ AllReadyH.nil))
            · (go_simp; try (with_reducible rfl))
            · intro v4 u' hT
              obtain ⟨A4, c4, rfl, ht4, hb⟩ := hT
              have hS' : (fun u => Below X4.heap.size X4 u) u' := hbt hS hb
              refine ⟨hS', ?_⟩
              replace ho9 := obj_below ho9 hb
              clear hS hb
              have hS := hS'; clear hS'
              rename World => u
              try simp only [Act.put, List.setIfInBounds_toArray, List.set_cons_zero, List.set_cons_succ]
              refine give_val (i := 5) (v := ?_) rfl (by kernel_rfl) (by kernel_rfl) (by kernel_rfl) (fun _ _ _ h => h) (by rfl) (fun u hu => ?_) hS ?_
              rotate_left
              · ((have hT := HT4.out.below hu; obtain ⟨b0, b1, b2⟩ := obj_cells3 hT.2.1; clear hT); go_simp; try (with_reducible rfl))
              try simp only [Act.put, List.setIfInBounds_toArray, List.set_cons_zero, List.set_cons_succ]
              refine give_val (i := 6) (v := ?_) rfl (by kernel_rfl) (by kernel_rfl) (by kernel_rfl) (fun _ _ _ h => h) (by rfl) (fun u hu => ?_) hS ?_
              rotate_left
              · ((have hT := HT4.out.below hu; obtain ⟨b0, b1, b2⟩ := obj_cells3 hT.2.1; clear hT); go_simp; try (with_reducible rfl))
              try simp only [Act.put, List.setIfInBounds_toArray, List.set_cons_zero, List.set_cons_succ]
              refine give_val (i := 7) (v := ?_) rfl (by kernel_rfl) (by kernel_rfl) (by kernel_rfl) (fun _ _ _ h => h) (by rfl) (fun u hu => ?_) hS ?_
              rotate_left
              · ((have hT := HT4.out.below hu; obtain ⟨b0, b1, b2⟩ := obj_cells3 hT.2.1; clear hT); go_simp; try (with_reducible rfl))
              try simp only [Act.put, List.setIfInBounds_toArray, List.set_cons_zero, List.set_cons_succ]
              refine wpAnyH_ready (rs := [8]) (by kernel_rfl) (by simp) (arm_alloc (i := 8) (.cells #[.string ⟨#[]⟩, .slice none 0 0] 28) rfl (by rfl) ?_ ?_ AllReadyH.nil)
              · (go_simp; try (with_reducible rfl))
              · intro p8 u' hb ho8 hp8
                have ne8_9 : p8 ≠ p9 := by have := obj_lt ho9; omega
                replace hp8 := Nat.le_trans (hS.size) hp8
                have hS' : (fun u => Below X4.heap.size X4 u) u' := hbt hS hb
                refine ⟨hS', ?_⟩
                replace ho9 := obj_below ho9 hb
                replace ht4 := ht4.below hb
                clear hS hb
                have hS := hS'; clear hS'
                rename World => u
                try simp only [Act.put, List.setIfInBounds_toArray, List.set_cons_zero, List.set_cons_succ]
                obtain ⟨d0, d1, f0, f1⟩ := obj_cells ho8
                have hr8 := obj_set2 ho8 (.string Rm) (.slice A4 rn c4)
                have ho9' := obj_set_other ho9 (Ne.symm ne8_9) (.string Rm) (.slice A4 rn c4)
                have hv4 := vals_store2 ht4 ho8 Rm A4 rn c4
                have hS4 : Below X4.heap.size X4 _ := below_set2 hS hp8 (.string Rm) (.slice A4 rn c4)
                refine only (i := 10) rfl (by kernel_rfl) (by rfl) (fun K hK => ?_)
                go_simp
                refine hK.out _ _ hS4 ?_
                clear hK
                try simp only [Act.put, List.setIfInBounds_toArray, List.set_cons_zero, List.set_cons_succ]
                clear d0 d1 f0 f1 hS ho8 ho9 ht4
                generalize ((u.setCell _ _).setCell _ _) = u4 at *
                obtain ⟨d0, d1, f0, f1⟩ := obj_cells ho9'
                have hr9 := obj_set2 ho9' (.int .i64 2) (.int .i64 z2')
                have hr8' := obj_set_other hr8 ne8_9 (.int .i64 2) (.int .i64 z2')
                have hv5 := vals_far hv4 ho9' (.int .i64 2) (.int .i64 z2')
                have hS5 : Below X4.heap.size X4 _ := below_set2 hS4 hp9 (.int .i64 2) (.int .i64 z2')
                refine only (i := 11) rfl (by kernel_rfl) (by rfl) (fun K hK => ?_)
                go_simp
                refine hK.out _ _ hS5 ?_
                clear hK
                try simp only [Act.put, List.setIfInBounds_toArray, List.set_cons_zero, List.set_cons_succ]
                refine wpAnyH_done (by kernel_rfl) (NoPanic.normal ?_) _
                go_wp2_with fail
                go_meet
                exact ⟨p8, p9, A4, c4, rfl, rfl, hr8', hv5, hr9, hS5⟩
            · (go_simp; try (with_reducible rfl))
            · intro p8 u' hb ho8 hp8
              have ne8_9 : p8 ≠ p9 := by have := obj_lt ho9; omega
              replace hp8 := Nat.le_trans (hS.size) hp8
              have hS' : (fun u => Below X4.heap.size X4 u) u' := hbt hS hb
              refine ⟨hS', ?_⟩
              replace ho9 := obj_below ho9 hb
              clear hS hb
              have hS := hS'; clear hS'
              rename World => u
              try simp only [Act.put, List.setIfInBounds_toArray, List.set_cons_zero, List.set_cons_succ]
              refine wpAnyH_ready (rs := [4]) (by kernel_rfl) (by simp) (arm_some (i := 4) 10 #[.agg #[.int .i64 st, .int .i64 v, .slice A len cap], .string y] rfl (by rfl) (HDX.out _ (HK4.out.below hS) (HI4.out.below hS)) ?_ ?_ AllReadyH.nil)
              · (go_simp; try (with_reducible rfl))
              · intro v4 u' hT
                obtain ⟨A4, c4, rfl, ht4, hb⟩ := hT
                have hS' : (fun u => Below X4.heap.size X4 u) u' := hbt hS hb
                refine ⟨hS', ?_⟩
                replace ho9 := obj_below ho9 hb
                replace ho8 := obj_below ho8 hb
                clear hS hb
                have hS := hS'; clear hS'
                rename World => u
                try simp only [Act.put, List.setIfInBounds_toArray, List.set_cons_zero, List.set_cons_succ]
                refine give_val (i := 5) (v := ?_) rfl (by kernel_rfl) (by kernel_rfl) (by kernel_rfl) (fun _ _ _ h => h) (by rfl) (fun u hu => ?_) hS ?_
                rotate_left
                · ((have hT := HT4.out.below hu; obtain ⟨b0, b1, b2⟩ := obj_cells3 hT.2.1; clear hT); go_simp; try (with_reducible rfl))
                try simp only [Act.put, List.setIfInBounds_toArray, List.set_cons_zero, List.set_cons_succ]
                refine give_val (i := 6) (v := ?_) rfl (by kernel_rfl) (by kernel_rfl) (by kernel_rfl) (fun _ _ _ h => h) (by rfl) (fun u hu => ?_) hS ?_
                rotate_left
                · ((have hT := HT4.out.below hu; obtain ⟨b0, b1, b2⟩ := obj_cells3 hT.2.1; clear hT); go_simp; try (with_reducible rfl))
                try simp only [Act.put, List.setIfInBounds_toArray, List.set_cons_zero, List.set_cons_succ]
                refine give_val (i := 7) (v := ?_) rfl (by kernel_rfl) (by kernel_rfl) (by kernel_rfl) (fun _ _ _ h => h) (by rfl) (fun u hu => ?_) hS ?_
                rotate_left
                · ((have hT := HT4.out.below hu; obtain ⟨b0, b1, b2⟩ := obj_cells3 hT.2.1; clear hT); go_simp; try (with_reducible rfl))
                try simp only [Act.put, List.setIfInBounds_toArray, List.set_cons_zero, List.set_cons_succ]
                obtain ⟨d0, d1, f0, f1⟩ := obj_cells ho8
                have hr8 := obj_set2 ho8 (.string Rm) (.slice A4 rn c4)
                have ho9' := obj_set_other ho9 (Ne.symm ne8_9) (.string Rm) (.slice A4 rn c4)
                have hv4 := vals_store2 ht4 ho8 Rm A4 rn c4
                have hS4 : Below X4.heap.size X4 _ := below_set2 hS hp8 (.string Rm) (.slice A4 rn c4)
                refine only (i := 10) rfl (by kernel_rfl) (by rfl) (fun K hK => ?_)
                go_simp
                refine hK.out _ _ hS4 ?_
                clear hK
                try simp only [Act.put, List.setIfInBounds_toArray, List.set_cons_zero, List.set_cons_succ]
                clear d0 d1 f0 f1 hS ho8 ho9 ht4
                generalize ((u.setCell _ _).setCell _ _) = u4 at *
                obtain ⟨d0, d1, f0, f1⟩ := obj_cells ho9'
                have hr9 := obj_set2 ho9' (.int .i64 2) (.int .i64 z2')
                have hr8' := obj_set_other hr8 ne8_9 (.int .i64 2) (.int .i64 z2')
                have hv5 := vals_far hv4 ho9' (.int .i64 2) (.int .i64 z2')
                have hS5 : Below X4.heap.size X4 _ := below_set2 hS4 hp9 (.int .i64 2) (.int .i64 z2')
                refine only (i := 11) rfl (by kernel_rfl) (by rfl) (fun K hK => ?_)
                go_simp
                refine hK.out _ _ hS5 ?_
                clear hK
                try simp only [Act.put, List.setIfInBounds_toArray, List.set_cons_zero, List.set_cons_succ]
                refine wpAnyH_done (by kernel_rfl) (NoPanic.normal ?_) _
                go_wp2_with fail
                go_meet
                exact ⟨p8, p9, A4, c4, rfl, rfl, hr8', hv5, hr9, hS5⟩
        case rest =>
          obtain ⟨p, p', A5, c5, rfl, rfl, hm5, ht5, hf5, hb5⟩ := hcut
          have HT5 := Lib.hid (HT4.out.below hb5)
          have HL5 := Lib.hid (HL4.out.below hb5)
          have HM5 := Lib.hid hm5
          have HV5 := Lib.hid ht5
          have hr := HR.out
          have trn : decide ((n : Int) < (rn : Int)) = false := by simp; omega
          have hch := HCAP.out rn hr
          obtain ⟨d0, d1, _, _⟩ := obj_cells hf5
          obtain ⟨e0, e1, _, _⟩ := obj_cells hm5
          obtain ⟨b3, b4, _, _⟩ := obj_cells HT5.out.2.2
          clear hm5 ht5 hf5 hb5 HT4 HL4 HK4 HI4
          rename World => x6
          go_wp2_with fail
          clear d0 d1 e0 e1 b3 b4
          refine wp_region_noPanic ?_
          refine wp_region_held_drew (S := (fun u => Below x6.heap.size x6 u)) (by kernel_rfl) ((Below.refl _ _).drew) (fun hS => ?_)
          refine give_val (i := 0) (v := ?_) rfl (by kernel_rfl) (by kernel_rfl) (by kernel_rfl) (fun _ _ _ h => h) (by rfl) (fun u hu => ?_) hS ?_
          rotate_left
          · ((have hT := HT5.out.below hu; obtain ⟨b3, b4, _, _⟩ := obj_cells hT.2.2; obtain ⟨e0, e1, _, _⟩ := obj_cells (HM5.out.below hu); clear hT); go_simp; try (with_reducible rfl))
          try simp only [Act.put, List.setIfInBounds_toArray, List.set_cons_zero, List.set_cons_succ]
          refine give_val (i := 1) (v := ?_) rfl (by kernel_rfl) (by kernel_rfl) (by kernel_rfl) (fun _ _ _ h => h) (by rfl) (fun u hu => ?_) hS ?_
          rotate_left
          · ((have hT := HT5.out.below hu; obtain ⟨b3, b4, _, _⟩ := obj_cells hT.2.2; obtain ⟨e0, e1, _, _⟩ := obj_cells (HM5.out.below hu); clear hT); go_simp; try (with_reducible rfl))
          try simp only [Act.put, List.setIfInBounds_toArray, List.set_cons_zero, List.set_cons_succ]
          refine give_val (i := 2) (v := ?_) rfl (by kernel_rfl) (by kernel_rfl) (by kernel_rfl) (fun _ _ _ h => h) (by rfl) (fun u hu => ?_) hS ?_
          rotate_left
          · ((have hT := HT5.out.below hu; obtain ⟨b3, b4, _, _⟩ := obj_cells hT.2.2; obtain ⟨e0, e1, _, _⟩ := obj_cells (HM5.out.below hu); clear hT); go_simp; try (with_reducible rfl))
          try simp only [Act.put, List.setIfInBounds_toArray, List.set_cons_zero, List.set_cons_succ]
          refine give_val (i := 3) (v := ?_) rfl (by kernel_rfl) (by kernel_rfl) (by kernel_rfl) (fun _ _ _ h => h) (by rfl) (fun u hu => ?_) hS ?_
          rotate_left
          · ((have hT := HT5.out.below hu; obtain ⟨b3, b4, _, _⟩ := obj_cells hT.2.2; obtain ⟨e0, e1, _, _⟩ := obj_cells (HM5.out.below hu); clear hT); go_simp; try (with_reducible rfl))
          try simp only [Act.put, List.setIfInBounds_toArray, List.set_cons_zero, List.set_cons_succ]
          refine give_val (i := 4) (v := ?_) rfl (by kernel_rfl) (by kernel_rfl) (by kernel_rfl) (fun _ _ _ h => h) (by rfl) (fun u hu => ?_) hS ?_
          rotate_left
          · ((have hT := HT5.out.below hu; obtain ⟨b3, b4, _, _⟩ := obj_cells hT.2.2; obtain ⟨e0, e1, _, _⟩ := obj_cells (HM5.out.below hu); clear hT); go_simp; try (with_reducible rfl))
          try simp only [Act.put, List.setIfInBounds_toArray, List.set_cons_zero, List.set_cons_succ]
          refine give_val (i := 5) (v := ?_) rfl (by kernel_rfl) (by kernel_rfl) (by kernel_rfl) (fun _ _ _ h => h) (by rfl) (fun u hu => ?_) hS ?_
          rotate_left
          · ((have hT := HT5.out.below hu; obtain ⟨b3, b4, _, _⟩ := obj_cells hT.2.2; obtain ⟨e0, e1, _, _⟩ := obj_cells (HM5.out.below hu); clear hT); go_simp; try (with_reducible rfl))
          try simp only [Act.put, List.setIfInBounds_toArray, List.set_cons_zero, List.set_cons_succ]
          refine give_val (i := 6) (v := ?_) rfl (by kernel_rfl) (by kernel_rfl) (by kernel_rfl) (fun _ _ _ h => h) (by rfl) (fun u hu => ?_) hS ?_
          rotate_left
          · ((have hT := HT5.out.below hu; obtain ⟨b3, b4, _, _⟩ := obj_cells hT.2.2; obtain ⟨e0, e1, _, _⟩ := obj_cells (HM5.out.below hu); clear hT); go_simp; try (with_reducible rfl))
          try simp only [Act.put, List.setIfInBounds_toArray, List.set_cons_zero, List.set_cons_succ]
          refine give_val (i := 7) (v := ?_) rfl (by kernel_rfl) (by kernel_rfl) (by kernel_rfl) (fun _ _ _ h => h) (by rfl) (fun u hu => ?_) hS ?_
          rotate_left
          · ((have hT := HT5.out.below hu; obtain ⟨b3, b4, _, _⟩ := obj_cells hT.2.2; obtain ⟨e0, e1, _, _⟩ := obj_cells (HM5.out.below hu); clear hT); go_simp; try (with_reducible rfl))
          try simp only [Act.put, List.setIfInBounds_toArray, List.set_cons_zero, List.set_cons_succ]
          refine give_val (i := 8) (v := ?_) rfl (by kernel_rfl) (by kernel_rfl) (by kernel_rfl) (fun _ _ _ h => h) (by rfl) (fun u hu => ?_) hS ?_
          rotate_left
          · ((have hT := HT5.out.below hu; obtain ⟨b3, b4, _, _⟩ := obj_cells hT.2.2; obtain ⟨e0, e1, _, _⟩ := obj_cells (HM5.out.below hu); clear hT); go_simp; try (with_reducible rfl))
          try simp only [Act.put, List.setIfInBounds_toArray, List.set_cons_zero, List.set_cons_succ]
          refine give_val (i := 9) (v := ?_) rfl (by kernel_rfl) (by kernel_rfl) (by kernel_rfl) (fun _ _ _ h => h) (by rfl) (fun u hu => ?_) hS ?_
          rotate_left
          · ((have hT := HT5.out.below hu; obtain ⟨b3, b4, _, _⟩ := obj_cells hT.2.2; obtain ⟨e0, e1, _, _⟩ := obj_cells (HM5.out.below hu); clear hT); go_simp; try (with_reducible rfl))
          try simp only [Act.put, List.setIfInBounds_toArray, List.set_cons_zero, List.set_cons_succ]
          refine only_call (i := 10) 12 #[.agg #[.string ⟨#[]⟩, .slice A5 rn c5], .agg #[.string ⟨#[]⟩, .slice B rn c]] rfl (by kernel_rfl) (by rfl) ((by have := HS.out Rl A5 c5 c _ (by have := HRN.out; omega) (by rw [HRN.out]; exact HR2.out) (HV5.out.below hS) (HL5.out.below hS); rw [HRN.out] at this; exact this.mono fun e w' he => ⟨he.1, hbt hS he.2⟩)) ?_ ?_
          · (go_simp; try (with_reducible rfl))
          clear hS
          intro w10 hS
          try simp only [Act.put, List.setIfInBounds_toArray, List.set_cons_zero, List.set_cons_succ]
          refine give_val (i := 11) (v := ?_) rfl (by kernel_rfl) (by kernel_rfl) (by kernel_rfl) (fun _ _ _ h => h) (by rfl) (fun u hu => ?_) hS ?_
          rotate_left
          · ((have hT := HT5.out.below hu; obtain ⟨b3, b4, _, _⟩ := obj_cells hT.2.2; obtain ⟨e0, e1, _, _⟩ := obj_cells (HM5.out.below hu); clear hT); go_simp; try (with_reducible rfl))
          try simp only [Act.put, List.setIfInBounds_toArray, List.set_cons_zero, List.set_cons_succ]
          refine wpAnyH_done (by kernel_rfl) (NoPanic.normal ?_) _
          go_wp2
          go_ret
          exact ⟨rfl, hbt HT5.out.1 hS⟩
  · have tz : (z == 0) = false := by simpa using hz0
    clear hz0 HD
    go_wp2
    go_ret
    exact ⟨rfl, HT4.out.1⟩

theorem scut_walk (hdec : DecSpec) (st v : Int) (A : Option Addr) (cap : Nat) (sl : List Sp) (m : ByteArray) (B : Option Addr) (c : Nat) (l : List Item) (k : Int) (w : World) (hK : Kinds w) (hI : Spl w A sl) (hL : Tlvs w B l) (hf : ∀ x ∈ l, x.2.size ≤ maxLen) (hcap : l.length ≤ c) :
    Calls Tryd.prog 7 #[.agg #[.int .i64 st, .int .i64 v, .slice A sl.length cap], .agg #[.string m, .slice B l.length c], .int .i64 k] w fun e w' => e = .returned (.bool true) ∧ Below w.heap.size w w' := by
  by_cases h : 200 < sl.length
  · exact scut_long hdec st v A _ cap m B _ c k w hK h
  · cases hg : greatM m l
    · exact scut_main hdec st v A cap sl m B c l k w hK hI hL hf h hg hcap
    · exact scut_great hdec st v A _ cap m B c l k w hK hL hf h hg

end Go.Proofs.YtlkpiapmdflahaaDoor
