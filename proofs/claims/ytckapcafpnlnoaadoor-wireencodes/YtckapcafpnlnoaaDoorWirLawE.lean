/-
  The law WireEncodes: for every schema and message, in every world that holds the table of kinds.
-/
import Derived.Test.YtckapcafpnlnoaaDoorWirAwk
import Derived.Test.YtckapcafpnlnoaaDoorWirRef
import Derived.Test.YtckapcafpnlnoaaDoorMsgRead
import Derived.Test.YtckapcafpnlnoaaDoorMsgRefChk
namespace Go.Proofs.YtckapcafpnlnoaaDoor
open Go.RowKit

set_option maxRecDepth 100000 in
set_option maxHeartbeats 3200000 in
theorem wencodes_long (st v : Int) (A : Option Addr) (len cap : Nat) (m : ByteArray) (B : Option Addr) (n c : Nat) (w : World) (hK : Kinds w) (h : 200 < len) :
    Calls Tryd.prog 4 #[.agg #[.int .i64 st, .int .i64 v, .slice A len cap], .agg #[.string m, .slice B n c]] w fun e w' => e = .returned (.bool true) ∧ Below w.heap.size w w' := by
  have t : decide ((200 : Int) < (len : Int)) = true := by simp; omega
  have HT := Lib.hid (wduo_new w st v A len cap m B n c)
  have HK := Lib.hid (hK.below HT.out.1)
  clear h hK
  go_enter Tryd.func4, Tryd.ntmps4
  go_wp2_with fail
  generalize (w.alloc (.cells #[.int .i64 st, .int .i64 v, .slice A len cap] 30)).alloc (.cells #[.string m, .slice B n c] 33) = U at *
  refine (wawake_any _ HK.out).mono ?_
  rintro e w1 ⟨rfl, hb1⟩
  have HT1 := Lib.hid (HT.out.below hb1)
  have HK1 := Lib.hid (HK.out.below hb1)
  obtain ⟨b0, b1, b2⟩ := obj_cells3 HT1.out.2.1
  clear hb1
  go_wp2_with fail
  refine (wawake_any _ HK1.out).mono ?_
  rintro e w2 ⟨rfl, hb2⟩
  have HB2 := Lib.hid (hbt HT1.out.1 hb2)
  clear hb2 b0 b1 b2
  go_wp2
  go_ret
  exact ⟨rfl, HB2.out⟩
set_option maxRecDepth 100000 in
set_option maxHeartbeats 3200000 in
theorem wencodes_great (st v : Int) (A : Option Addr) (len cap : Nat) (m : ByteArray) (B : Option Addr) (c : Nat) (l : List Item) (w : World) (hK : Kinds w) (hL : Tlvs w B l) (hf : ∀ x ∈ l, x.2.size ≤ maxLen) (h : ¬ 200 < len) (hg : greatM m l = true) :
    Calls Tryd.prog 4 #[.agg #[.int .i64 st, .int .i64 v, .slice A len cap], .agg #[.string m, .slice B l.length c]] w fun e w' => e = .returned (.bool true) ∧ Below w.heap.size w w' := by
  have t : decide ((200 : Int) < (len : Int)) = false := by simp; omega
  have HT := Lib.hid (wduo_new w st v A len cap m B l.length c)
  have HK := Lib.hid (hK.below HT.out.1)
  have HL := Lib.hid (hL.below HT.out.1)
  have HG := Lib.hid (fun W hW => mgreat_any m B c l W hW hf)
  rw [hg] at HG
  clear h hK hL hf hg
  generalize l.length = n at *
  go_enter Tryd.func4, Tryd.ntmps4
  go_wp2_with fail
  generalize (w.alloc (.cells #[.int .i64 st, .int .i64 v, .slice A len cap] 30)).alloc (.cells #[.string m, .slice B n c] 33) = U at *
  refine (wawake_any _ HK.out).mono ?_
  rintro e w1 ⟨rfl, hb1⟩
  have HT1 := Lib.hid (HT.out.below hb1)
  have HK1 := Lib.hid (HK.out.below hb1)
  have HL1 := Lib.hid (HL.out.below hb1)
  obtain ⟨b0, b1, b2⟩ := obj_cells3 HT1.out.2.1
  obtain ⟨b3, b4, _, _⟩ := obj_cells HT1.out.2.2
  clear hb1
  go_wp2_with fail
  refine (HG.out _ HL1.out).mono ?_
  rintro e w2 ⟨rfl, hb2⟩
  have HB2 := Lib.hid (hbt HT1.out.1 hb2)
  have HK2 := Lib.hid (HK1.out.below hb2)
  clear hb2 b0 b1 b2 b3 b4
  go_wp2_with fail
  refine (wawake_any _ HK2.out).mono ?_
  rintro e w3 ⟨rfl, hb3⟩
  have HB3 := Lib.hid (hbt HB2.out hb3)
  clear hb3
  go_wp2
  go_ret
  exact ⟨rfl, HB3.out⟩
set_option maxRecDepth 100000 in
set_option maxHeartbeats 12800000 in
theorem wencodes_main (st v : Int) (A : Option Addr) (cap : Nat) (sl : List Sp) (m : ByteArray) (B : Option Addr) (c : Nat) (l : List Item) (w : World) (hK : Kinds w) (hI : Spl w A sl) (hL : Tlvs w B l) (hf : ∀ x ∈ l, x.2.size ≤ maxLen) (hm : m.size ≤ maxLen) (h : ¬ 200 < sl.length) (hg : greatM m l = false) :
    Calls Tryd.prog 4 #[.agg #[.int .i64 st, .int .i64 v, .slice A sl.length cap], .agg #[.string m, .slice B l.length c]] w fun e w' => e = .returned (.bool true) ∧ Below w.heap.size w w' := by
  have t : decide ((200 : Int) < (sl.length : Int)) = false := by simp; omega
  have hn : sl.length ≤ 1000 := by omega
  have hl : l.length ≤ 900 := by have := (great_in hg).2.1; omega
  have HT := Lib.hid (wduo_new w st v A sl.length cap m B l.length c)
  have HK := Lib.hid (hK.below HT.out.1)
  have HL := Lib.hid (hL.below HT.out.1)
  have HI := Lib.hid (hI.below HT.out.1)
  have HG := Lib.hid (fun W hW => mgreat_any m B c l W hW hf)
  rw [hg] at HG
  have HZ : Hid (∀ W, Tlvs W B l → Calls Tryd.prog 14 #[.agg #[.string m, .slice B l.length c]] W fun e w' => ∃ x, e = .returned x ∧ ∃ A' c', x = .agg #[.string m, .slice A' l.length c'] ∧ Tlvs w' A' l ∧ Below W.heap.size W w') := fun W hW => (mcopy_any m B c l W hW (by omega)).mono fun e w' ⟨A', c', he, ht, hb⟩ => ⟨_, he, A', c', rfl, ht, hb⟩
  have HC := Lib.hid (fun B' d' W h0 h1 h2 => wenc_any st v A cap sl m B' d' l W h0 h1 h2 hn (by omega) hf)
  have HR := Lib.hid (fun W h1 h2 => mrcheck_any st v A cap sl m B c l W h1 h2 hn (by omega) hf hm)
  have HD : Hid ((msgN st v sl m l).1 = 0 → (msgN st v sl m l).2 = 0 ∧ ∀ W, Spl W A sl → Tlvs W B l → Calls Tryd.prog 16 #[.agg #[.int .i64 st, .int .i64 v, .slice A sl.length cap], .agg #[.string m, .slice B l.length c]] W fun e w' => e = .returned (.string (encS st v sl m l)) ∧ Below W.heap.size W w') := fun e => by
    have h1 := wmsgN_first e
    obtain ⟨k, rfl, hk⟩ := valid_style h1
    rw [encS_yes h1]
    exact ⟨by rw [h1], fun W h2 h3 => wbytes_any k v A cap sl m B c l W h2 h3 hn hl hk h1⟩
  have HN : Hid ((msgN st v sl m l).1 ≠ 0 → encS st v sl m l = ⟨#[]⟩) := fun e => encS_no (fun e1 => e (by rw [e1]))
  clear h hK hL hI hf hg hm hl hn
  generalize encS st v sl m l = x at *
  generalize (msgN st v sl m l).1 = z at *
  generalize (msgN st v sl m l).2 = z' at *
  generalize sl.length = len at *
  generalize l.length = n at *
  go_enter Tryd.func4, Tryd.ntmps4
  go_wp2_with fail
  generalize (w.alloc (.cells #[.int .i64 st, .int .i64 v, .slice A len cap] 30)).alloc (.cells #[.string m, .slice B n c] 33) = U at *
  refine (wawake_any _ HK.out).mono ?_
  rintro e x1 ⟨rfl, hb1⟩
  have HT1 := Lib.hid (HT.out.below hb1)
  have HK1 := Lib.hid (HK.out.below hb1)
  have HL1 := Lib.hid (HL.out.below hb1)
  have HI1 := Lib.hid (HI.out.below hb1)
  obtain ⟨b0, b1, b2⟩ := obj_cells3 HT1.out.2.1
  obtain ⟨b3, b4, _, _⟩ := obj_cells HT1.out.2.2
  clear hb1 HT HK HL HI
  go_wp2_with fail
  refine (HG.out _ HL1.out).mono ?_
  rintro e x2 ⟨rfl, hb2⟩
  have HT2 := Lib.hid (HT1.out.below hb2)
  have HK2 := Lib.hid (HK1.out.below hb2)
  have HL2 := Lib.hid (HL1.out.below hb2)
  have HI2 := Lib.hid (HI1.out.below hb2)
  clear hb2 b0 b1 b2 b3 b4 HT1 HK1 HL1 HI1
  go_upto_region 3 with fail
  go_cut [5, 6] (fun s5 s6 wx => ∃ p : Nat, s5 = .string x ∧ s6 = .pointer (some ⟨p, 0, none⟩) ∧ wx.heap[p]? = some (.cells #[.int .i64 z, .int .i64 z'] 37) ∧ Below x2.heap.size x2 wx)
  case first =>
    refine wp_region_noPanic ?_
    refine wp_region_held_drew (S := (fun u => Below x2.heap.size x2 u)) (by kernel_rfl) ((Below.refl _ _).drew) (fun hS => ?_)
    refine give_val (i := 0) (v := ?_) rfl (by kernel_rfl) (by kernel_rfl) (by kernel_rfl) (fun _ _ _ h => h) (by rfl) (fun u hu => ?_) hS ?_
    rotate_left
    · ((have hT := HT2.out.below hu; obtain ⟨b0, b1, b2⟩ := obj_cells3 hT.2.1; obtain ⟨b3, b4, _, _⟩ := obj_cells hT.2.2; clear hT); go_simp; try (with_reducible rfl))
    try simp only [Act.put, List.setIfInBounds_toArray, List.set_cons_zero, List.set_cons_succ]
    refine give_val (i := 1) (v := ?_) rfl (by kernel_rfl) (by kernel_rfl) (by kernel_rfl) (fun _ _ _ h => h) (by rfl) (fun u hu => ?_) hS ?_
    rotate_left
    · ((have hT := HT2.out.below hu; obtain ⟨b0, b1, b2⟩ := obj_cells3 hT.2.1; obtain ⟨b3, b4, _, _⟩ := obj_cells hT.2.2; clear hT); go_simp; try (with_reducible rfl))
    try simp only [Act.put, List.setIfInBounds_toArray, List.set_cons_zero, List.set_cons_succ]
    refine wpAnyH_ready (rs := [2, 7]) (by kernel_rfl) (by simp) (arm_some (i := 2) 14 #[.agg #[.string m, .slice B n c]] rfl (by rfl) (HZ.out _ (HL2.out.below hS)) ?_ ?_ (arm_alloc (i := 7) (.cells #[.int .i64 0, .int .i64 0] 37) rfl (by rfl) ?_ ?_ AllReadyH.nil))
    · (go_simp; try (with_reducible rfl))
    · intro v2 u' hT
      obtain ⟨A2, c2, rfl, ht2, hb⟩ := hT
      have hS' : (fun u => Below x2.heap.size x2 u) u' := hbt hS hb
      refine ⟨hS', ?_⟩
      clear hS hb
      have hS := hS'; clear hS'
      rename World => u
      try simp only [Act.put, List.setIfInBounds_toArray, List.set_cons_zero, List.set_cons_succ]
      refine wpAnyH_ready (rs := [3, 7]) (by kernel_rfl) (by simp) (arm_call (i := 3) 13 #[.agg #[.int .i64 st, .int .i64 v, .slice A len cap], .agg #[.string m, .slice A2 n c2]] rfl (by rfl) (HC.out A2 c2 _ (HK2.out.below hS) (HI2.out.below hS) ht2) ?_ ?_ (arm_alloc (i := 7) (.cells #[.int .i64 0, .int .i64 0] 37) rfl (by rfl) ?_ ?_ AllReadyH.nil))
      · (go_simp; try (with_reducible rfl))
      · intro u' hb
        have hS' : (fun u => Below x2.heap.size x2 u) u' := hbt hS hb
        refine ⟨hS', ?_⟩
        replace ht2 := ht2.below hb
        clear hS hb
        have hS := hS'; clear hS'
        rename World => u
        try simp only [Act.put, List.setIfInBounds_toArray, List.set_cons_zero, List.set_cons_succ]
        refine give_val (i := 4) (v := ?_) rfl (by kernel_rfl) (by kernel_rfl) (by kernel_rfl) (fun _ _ _ h => h) (by rfl) (fun u hu => ?_) hS ?_
        rotate_left
        · ((have hT := HT2.out.below hu; obtain ⟨b0, b1, b2⟩ := obj_cells3 hT.2.1; obtain ⟨b3, b4, _, _⟩ := obj_cells hT.2.2; clear hT); go_simp; try (with_reducible rfl))
        try simp only [Act.put, List.setIfInBounds_toArray, List.set_cons_zero, List.set_cons_succ]
        refine give_val (i := 5) (v := ?_) rfl (by kernel_rfl) (by kernel_rfl) (by kernel_rfl) (fun _ _ _ h => h) (by rfl) (fun u hu => ?_) hS ?_
        rotate_left
        · ((have hT := HT2.out.below hu; obtain ⟨b0, b1, b2⟩ := obj_cells3 hT.2.1; obtain ⟨b3, b4, _, _⟩ := obj_cells hT.2.2; clear hT); go_simp; try (with_reducible rfl))
        try simp only [Act.put, List.setIfInBounds_toArray, List.set_cons_zero, List.set_cons_succ]
        refine give_val (i := 6) (v := ?_) rfl (by kernel_rfl) (by kernel_rfl) (by kernel_rfl) (fun _ _ _ h => h) (by rfl) (fun u hu => ?_) hS ?_
        rotate_left
        · ((have hT := HT2.out.below hu; obtain ⟨b0, b1, b2⟩ := obj_cells3 hT.2.1; obtain ⟨b3, b4, _, _⟩ := obj_cells hT.2.2; clear hT); go_simp; try (with_reducible rfl))
        try simp only [Act.put, List.setIfInBounds_toArray, List.set_cons_zero, List.set_cons_succ]
        refine wpAnyH_ready (rs := [7]) (by kernel_rfl) (by simp) (arm_alloc (i := 7) (.cells #[.int .i64 0, .int .i64 0] 37) rfl (by rfl) ?_ ?_ AllReadyH.nil)
        · (go_simp; try (with_reducible rfl))
        · intro p7 u' hb ho7 hp7
          replace hp7 := Nat.le_trans (hS.size) hp7
          have hS' : (fun u => Below x2.heap.size x2 u) u' := hbt hS hb
          refine ⟨hS', ?_⟩
          replace ht2 := ht2.below hb
          clear hS hb
          have hS := hS'; clear hS'
          rename World => u
          try simp only [Act.put, List.setIfInBounds_toArray, List.set_cons_zero, List.set_cons_succ]
          obtain ⟨d0, d1, f0, f1⟩ := obj_cells ho7
          have hr7 := obj_set2 ho7 (.int .i64 z) (.int .i64 z')
          have hS4 : Below x2.heap.size x2 _ := below_set2 hS hp7 (.int .i64 z) (.int .i64 z')
          refine give_val (i := 8) (v := ?_) rfl (by kernel_rfl) (by kernel_rfl) (by kernel_rfl) (fun _ _ _ h => h) (by rfl) (fun u hu => ?_) hS ?_
          rotate_left
          · ((have hT := HT2.out.below hu; obtain ⟨b0, b1, b2⟩ := obj_cells3 hT.2.1; obtain ⟨b3, b4, _, _⟩ := obj_cells hT.2.2; clear hT); go_simp; try (with_reducible rfl))
          try simp only [Act.put, List.setIfInBounds_toArray, List.set_cons_zero, List.set_cons_succ]
          refine only (i := 9) rfl (by kernel_rfl) (by rfl) (fun K hK => ?_)
          go_simp
          refine hK.out _ _ hS4 ?_
          clear hK
          try simp only [Act.put, List.setIfInBounds_toArray, List.set_cons_zero, List.set_cons_succ]
          refine wpAnyH_done (by kernel_rfl) (NoPanic.normal ?_) _
          go_wp2_with fail
          go_meet
          exact ⟨p7, rfl, rfl, hr7, hS4⟩
      · (go_simp; try (with_reducible rfl))
      · intro p7 u' hb ho7 hp7
        replace hp7 := Nat.le_trans (hS.size) hp7
        have hS' : (fun u => Below x2.heap.size x2 u) u' := hbt hS hb
        refine ⟨hS', ?_⟩
        replace ht2 := ht2.below hb
        clear hS hb
        have hS := hS'; clear hS'
        rename World => u
        try simp only [Act.put, List.setIfInBounds_toArray, List.set_cons_zero, List.set_cons_succ]
        refine wpAnyH_ready (rs := [3]) (by kernel_rfl) (by simp) (arm_call (i := 3) 13 #[.agg #[.int .i64 st, .int .i64 v, .slice A len cap], .agg #[.string m, .slice A2 n c2]] rfl (by rfl) (HC.out A2 c2 _ (HK2.out.below hS) (HI2.out.below hS) ht2) ?_ ?_ AllReadyH.nil)
        · (go_simp; try (with_reducible rfl))
        · intro u' hb
          have hS' : (fun u => Below x2.heap.size x2 u) u' := hbt hS hb
          refine ⟨hS', ?_⟩
          replace ho7 := obj_below ho7 hb
          replace ht2 := ht2.below hb
          clear hS hb
          have hS := hS'; clear hS'
          rename World => u
          try simp only [Act.put, List.setIfInBounds_toArray, List.set_cons_zero, List.set_cons_succ]
          refine give_val (i := 4) (v := ?_) rfl (by kernel_rfl) (by kernel_rfl) (by kernel_rfl) (fun _ _ _ h => h) (by rfl) (fun u hu => ?_) hS ?_
          rotate_left
          · ((have hT := HT2.out.below hu; obtain ⟨b0, b1, b2⟩ := obj_cells3 hT.2.1; obtain ⟨b3, b4, _, _⟩ := obj_cells hT.2.2; clear hT); go_simp; try (with_reducible rfl))
          try simp only [Act.put, List.setIfInBounds_toArray, List.set_cons_zero, List.set_cons_succ]
          refine give_val (i := 5) (v := ?_) rfl (by kernel_rfl) (by kernel_rfl) (by kernel_rfl) (fun _ _ _ h => h) (by rfl) (fun u hu => ?_) hS ?_
          rotate_left
          · ((have hT := HT2.out.below hu; obtain ⟨b0, b1, b2⟩ := obj_cells3 hT.2.1; obtain ⟨b3, b4, _, _⟩ := obj_cells hT.2.2; clear hT); go_simp; try (with_reducible rfl))
          try simp only [Act.put, List.setIfInBounds_toArray, List.set_cons_zero, List.set_cons_succ]
          refine give_val (i := 6) (v := ?_) rfl (by kernel_rfl) (by kernel_rfl) (by kernel_rfl) (fun _ _ _ h => h) (by rfl) (fun u hu => ?_) hS ?_
          rotate_left
          · ((have hT := HT2.out.below hu; obtain ⟨b0, b1, b2⟩ := obj_cells3 hT.2.1; obtain ⟨b3, b4, _, _⟩ := obj_cells hT.2.2; clear hT); go_simp; try (with_reducible rfl))
          try simp only [Act.put, List.setIfInBounds_toArray, List.set_cons_zero, List.set_cons_succ]
          obtain ⟨d0, d1, f0, f1⟩ := obj_cells ho7
          have hr7 := obj_set2 ho7 (.int .i64 z) (.int .i64 z')
          have hS4 : Below x2.heap.size x2 _ := below_set2 hS hp7 (.int .i64 z) (.int .i64 z')
          refine give_val (i := 8) (v := ?_) rfl (by kernel_rfl) (by kernel_rfl) (by kernel_rfl) (fun _ _ _ h => h) (by rfl) (fun u hu => ?_) hS ?_
          rotate_left
          · ((have hT := HT2.out.below hu; obtain ⟨b0, b1, b2⟩ := obj_cells3 hT.2.1; obtain ⟨b3, b4, _, _⟩ := obj_cells hT.2.2; clear hT); go_simp; try (with_reducible rfl))
          try simp only [Act.put, List.setIfInBounds_toArray, List.set_cons_zero, List.set_cons_succ]
          refine only (i := 9) rfl (by kernel_rfl) (by rfl) (fun K hK => ?_)
          go_simp
          refine hK.out _ _ hS4 ?_
          clear hK
          try simp only [Act.put, List.setIfInBounds_toArray, List.set_cons_zero, List.set_cons_succ]
          refine wpAnyH_done (by kernel_rfl) (NoPanic.normal ?_) _
          go_wp2_with fail
          go_meet
          exact ⟨p7, rfl, rfl, hr7, hS4⟩
    · (go_simp; try (with_reducible rfl))
    · intro p7 u' hb ho7 hp7
      replace hp7 := Nat.le_trans (hS.size) hp7
      have hS' : (fun u => Below x2.heap.size x2 u) u' := hbt hS hb
      refine ⟨hS', ?_⟩
      clear hS hb
      have hS := hS'; clear hS'
      rename World => u
      try simp only [Act.put, List.setIfInBounds_toArray, List.set_cons_zero, List.set_cons_succ]
      refine wpAnyH_ready (rs := [2]) (by kernel_rfl) (by simp) (arm_some (i := 2) 14 #[.agg #[.string m, .slice B n c]] rfl (by rfl) (HZ.out _ (HL2.out.below hS)) ?_ ?_ AllReadyH.nil)
      · (go_simp; try (with_reducible rfl))
      · intro v2 u' hT
        obtain ⟨A2, c2, rfl, ht2, hb⟩ := hT
        have hS' : (fun u => Below x2.heap.size x2 u) u' := hbt hS hb
        refine ⟨hS', ?_⟩
        replace ho7 := obj_below ho7 hb
        clear hS hb
        have hS := hS'; clear hS'
        rename World => u
        try simp only [Act.put, List.setIfInBounds_toArray, List.set_cons_zero, List.set_cons_succ]
        refine wpAnyH_ready (rs := [3]) (by kernel_rfl) (by simp) (arm_call (i := 3) 13 #[.agg #[.int .i64 st, .int .i64 v, .slice A len cap], .agg #[.string m, .slice A2 n c2]] rfl (by rfl) (HC.out A2 c2 _ (HK2.out.below hS) (HI2.out.below hS) ht2) ?_ ?_ AllReadyH.nil)
        · (go_simp; try (with_reducible rfl))
        · intro u' hb
          have hS' : (fun u => Below x2.heap.size x2 u) u' := hbt hS hb
          refine ⟨hS', ?_⟩
          replace ho7 := obj_below ho7 hb
          replace ht2 := ht2.below hb
          clear hS hb
          have hS := hS'; clear hS'
          rename World => u
          try simp only [Act.put, List.setIfInBounds_toArray, List.set_cons_zero, List.set_cons_succ]
          refine give_val (i := 4) (v := ?_) rfl (by kernel_rfl) (by kernel_rfl) (by kernel_rfl) (fun _ _ _ h => h) (by rfl) (fun u hu => ?_) hS ?_
          rotate_left
          · ((have hT := HT2.out.below hu; obtain ⟨b0, b1, b2⟩ := obj_cells3 hT.2.1; obtain ⟨b3, b4, _, _⟩ := obj_cells hT.2.2; clear hT); go_simp; try (with_reducible rfl))
          try simp only [Act.put, List.setIfInBounds_toArray, List.set_cons_zero, List.set_cons_succ]
          refine give_val (i := 5) (v := ?_) rfl (by kernel_rfl) (by kernel_rfl) (by kernel_rfl) (fun _ _ _ h => h) (by rfl) (fun u hu => ?_) hS ?_
          rotate_left
          · ((have hT := HT2.out.below hu; obtain ⟨b0, b1, b2⟩ := obj_cells3 hT.2.1; obtain ⟨b3, b4, _, _⟩ := obj_cells hT.2.2; clear hT); go_simp; try (with_reducible rfl))
          try simp only [Act.put, List.setIfInBounds_toArray, List.set_cons_zero, List.set_cons_succ]
          refine give_val (i := 6) (v := ?_) rfl (by kernel_rfl) (by kernel_rfl) (by kernel_rfl) (fun _ _ _ h => h) (by rfl) (fun u hu => ?_) hS ?_
          rotate_left
          · ((have hT := HT2.out.below hu; obtain ⟨b0, b1, b2⟩ := obj_cells3 hT.2.1; obtain ⟨b3, b4, _, _⟩ := obj_cells hT.2.2; clear hT); go_simp; try (with_reducible rfl))
          try simp only [Act.put, List.setIfInBounds_toArray, List.set_cons_zero, List.set_cons_succ]
          obtain ⟨d0, d1, f0, f1⟩ := obj_cells ho7
          have hr7 := obj_set2 ho7 (.int .i64 z) (.int .i64 z')
          have hS4 : Below x2.heap.size x2 _ := below_set2 hS hp7 (.int .i64 z) (.int .i64 z')
          refine give_val (i := 8) (v := ?_) rfl (by kernel_rfl) (by kernel_rfl) (by kernel_rfl) (fun _ _ _ h => h) (by rfl) (fun u hu => ?_) hS ?_
          rotate_left
          · ((have hT := HT2.out.below hu; obtain ⟨b0, b1, b2⟩ := obj_cells3 hT.2.1; obtain ⟨b3, b4, _, _⟩ := obj_cells hT.2.2; clear hT); go_simp; try (with_reducible rfl))
          try simp only [Act.put, List.setIfInBounds_toArray, List.set_cons_zero, List.set_cons_succ]
          refine only (i := 9) rfl (by kernel_rfl) (by rfl) (fun K hK => ?_)
          go_simp
          refine hK.out _ _ hS4 ?_
          clear hK
          try simp only [Act.put, List.setIfInBounds_toArray, List.set_cons_zero, List.set_cons_succ]
          refine wpAnyH_done (by kernel_rfl) (NoPanic.normal ?_) _
          go_wp2_with fail
          go_meet
          exact ⟨p7, rfl, rfl, hr7, hS4⟩
  case rest =>
    obtain ⟨p, rfl, rfl, hp, hb⟩ := hcut
    have HT3 := Lib.hid (HT2.out.below hb)
    have HL3 := Lib.hid (HL2.out.below hb)
    have HI3 := Lib.hid (HI2.out.below hb)
    have HP3 := Lib.hid hp
    clear hp hb HT2 HK2 HL2 HI2
    rename World => x3
    obtain ⟨b0, b1, b2⟩ := obj_cells3 HT3.out.2.1
    obtain ⟨b3, b4, _, _⟩ := obj_cells HT3.out.2.2
    go_wp2_with fail
    refine (HR.out _ HI3.out HL3.out).mono ?_
    rintro e x4 ⟨rfl, hb4⟩
    have hal := hbt hb4 (below_al x4 (.cells #[.int .i64 z, .int .i64 z'] 37))
    have HT5 := Lib.hid (HT3.out.below hal)
    have HL5 := Lib.hid (HL3.out.below hal)
    have HI5 := Lib.hid (HI3.out.below hal)
    have HP5 := Lib.hid (obj_below HP3.out hal)
    obtain ⟨c0, c1, _, _⟩ := obj_cells (obj_below HP3.out hb4)
    have hlt := obj_lt (obj_below HP3.out hb4)
    obtain ⟨b0, b1, b2⟩ := obj_cells3 (HT3.out.below hb4).2.1
    obtain ⟨b3, b4, _, _⟩ := obj_cells (HT3.out.below hb4).2.2
    have hlt1 := obj_lt (HT3.out.below hb4).2.1
    have hlt2 := obj_lt (HT3.out.below hb4).2.2
    clear hb4 hal
    by_cases hz : z = 0
    · subst hz
      obtain ⟨rfl, hd⟩ := HD.out rfl
      have HDD := Lib.hid hd
      clear hd HD HN
      go_wp2_with fail
      refine (HDD.out _ HI5.out HL5.out).mono ?_
      rintro e x6 ⟨rfl, hb6⟩
      have HB6 := Lib.hid (hbt HT5.out.1 hb6)
      clear hb6
      go_wp2
      go_ret
      exact ⟨rfl, HB6.out⟩
    · obtain rfl := HN.out hz
      have tz : (z == 0) = false := by simpa using hz
      clear hz HD HN
      go_wp2
      go_ret
      exact ⟨rfl, HT5.out.1⟩

theorem wencodes_walk (st v : Int) (A : Option Addr) (cap : Nat) (sl : List Sp) (m : ByteArray) (B : Option Addr) (c : Nat) (l : List Item) (w : World) (hK : Kinds w) (hI : Spl w A sl) (_h1 : sl.length ≤ maxLen) (hm : m.size ≤ maxLen) (hL : Tlvs w B l) (_h2 : l.length ≤ maxLen) (hf : ∀ x ∈ l, x.2.size ≤ maxLen) :
    Calls Tryd.prog 4 #[.agg #[.int .i64 st, .int .i64 v, .slice A sl.length cap], .agg #[.string m, .slice B l.length c]] w fun e w' => e = .returned (.bool true) ∧ Below w.heap.size w w' := by
  by_cases h : 200 < sl.length
  · exact wencodes_long st v A _ cap m B _ c w hK h
  · cases hg : greatM m l
    · exact wencodes_main st v A cap sl m B c l w hK hI hL hf hm h hg
    · exact wencodes_great st v A _ cap m B c l w hK hL hf h hg

end Go.Proofs.YtckapcafpnlnoaaDoor
