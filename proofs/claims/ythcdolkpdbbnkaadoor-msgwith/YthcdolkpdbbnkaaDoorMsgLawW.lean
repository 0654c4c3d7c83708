/-
  The law MsgWith: for every message, number and text, in every world that holds the table of kinds.
-/
import Derived.Test.YthcdolkpdbbnkaaDoorMsgAwk
import Derived.Test.YthcdolkpdbbnkaaDoorMsgRefCut
namespace Go.Proofs.YthcdolkpdbbnkaaDoor
open Go.RowKit

set_option maxRecDepth 100000 in
set_option maxHeartbeats 6400000 in
theorem mwiths_great (m : ByteArray) (A : Option Addr) (ca : Nat) (l : List Item) (no : Int) (t : ByteArray) (w : World) (hK : Kinds w) (hL : Tlvs w A l) (hf : ∀ x ∈ l, x.2.size ≤ maxLen) (ht : t.size ≤ maxLen) (hg : greatM m l = true ∨ greatM m l = false ∧ 1000 < t.size) :
    Calls Tryd.prog 5 #[.agg #[.string m, .slice A l.length ca], .int .i64 no, .string t] w fun e w' => e = .returned (.bool true) ∧ Below w.heap.size w w' := by
  have HB0 := Lib.hid (below_al w (.cells #[.string m, .slice A l.length ca] 27))
  have HX0 := Lib.hid (mbox_new w m A l.length ca)
  have HK := Lib.hid (hK.below HB0.out)
  have HL := Lib.hid (hL.below HB0.out)
  have HG := Lib.hid (fun W hW => mgreat_any m A ca l W hW hf)
  clear hK hL hf
  unfold maxLen at ht
  generalize l.length = n at *
  rcases hg with hg | ⟨hg, hh⟩
  all_goals
    rw [hg] at HG
    clear hg
    try (have tt : decide ((1000 : Int) < (t.size : Int)) = true := by simp; omega)
    try clear hh
    go_enter Tryd.func5, Tryd.ntmps5
    go_wp2_with fail
    generalize w.alloc (.cells #[.string m, .slice A n ca] 27) = U at *
    refine (mawake_any _ HK.out).mono ?_
    rintro e w1 ⟨rfl, hb1⟩
    have HB1 := Lib.hid (hbt HB0.out hb1)
    have HK1 := Lib.hid (HK.out.below hb1)
    have HL1 := Lib.hid (HL.out.below hb1)
    obtain ⟨b0, b1, _, _⟩ := obj_cells (HX0.out.below hb1)
    clear hb1
    go_wp2_with fail
    refine (HG.out _ HL1.out).mono ?_
    rintro e w2 ⟨rfl, hb2⟩
    have HB2 := Lib.hid (hbt HB1.out hb2)
    have HK2 := Lib.hid (HK1.out.below hb2)
    clear hb2 b0 b1
    go_wp2_with fail
    refine (mawake_any _ HK2.out).mono ?_
    rintro e w3 ⟨rfl, hb3⟩
    have HB3 := Lib.hid (hbt HB2.out hb3)
    clear hb3
    go_wp2
    go_ret
    exact ⟨rfl, HB3.out⟩

set_option maxRecDepth 100000 in
set_option maxHeartbeats 25600000 in
theorem mwiths_short (m : ByteArray) (A : Option Addr) (ca : Nat) (l : List Item) (no : Int) (t : ByteArray) (w : World) (hK : Kinds w) (hL : Tlvs w A l) (hf : ∀ x ∈ l, x.2.size ≤ maxLen) (hg : greatM m l = false) (hh : ¬ 1000 < t.size) :
    Calls Tryd.prog 5 #[.agg #[.string m, .slice A l.length ca], .int .i64 no, .string t] w fun e w' => e = .returned (.bool true) ∧ Below w.heap.size w w' := by
  have hl : l.length ≤ 999 := by have := (great_in hg).2.1; omega
  have hwl : (withL no t l).length ≤ 1000 := by have := with_length no t l; omega
  have hol : (outL no l).length ≤ 1000 := by have := out_length no l; omega
  have tt : decide ((1000 : Int) < (t.size : Int)) = false := by simp; omega
  have HB0 := Lib.hid (below_al w (.cells #[.string m, .slice A l.length ca] 27))
  have HX0 := Lib.hid (mbox_new w m A l.length ca)
  have HK := Lib.hid (hK.below HB0.out)
  have HL := Lib.hid (hL.below HB0.out)
  have HG := Lib.hid (fun W hW => mgreat_any m A ca l W hW hf)
  rw [hg] at HG
  have HY := Lib.hid (fun W hW => mcopy_any m A ca l W hW (by omega))
  have HWI : Hid (∀ A' c' W, Tlvs W A' l → Calls Tryd.prog 20 #[.agg #[.string m, .slice A' l.length c'], .int .i64 no, .string t] W fun e w' => ∃ x, e = .returned x ∧ ∃ B d, x = .agg #[.string m, .slice B (withL no t l).length d] ∧ Tlvs w' B (withL no t l) ∧ Below W.heap.size W w') := fun A' c' W hW => (mwith_any m A' c' l no t W hW hl).mono fun e w' ⟨A', c', he, ht, hb⟩ => ⟨_, he, A', c', rfl, ht, hb⟩
  have HWO : Hid (∀ A' c' W, Tlvs W A' l → Calls Tryd.prog 21 #[.agg #[.string m, .slice A' l.length c'], .int .i64 no] W fun e w' => ∃ x, e = .returned x ∧ ∃ B d, x = .agg #[.string m, .slice B (outL no l).length d] ∧ Tlvs w' B (outL no l) ∧ Below W.heap.size W w') := fun A' c' W hW => (mwithout_any m A' c' l no W hW (by omega)).mono fun e w' ⟨A', c', he, ht, hb⟩ => ⟨_, he, A', c', rfl, ht, hb⟩
  have HRI : Hid (∀ W, Tlvs W A l → Calls Tryd.prog 23 #[.agg #[.string m, .slice A l.length ca], .int .i64 no, .string t] W fun e w' => ∃ x, e = .returned x ∧ ∃ B d, x = .agg #[.string m, .slice B (withL no t l).length d] ∧ Tlvs w' B (withL no t l) ∧ Below W.heap.size W w') := fun W hW => (mrwith_any m A ca l no t W hW hl).mono fun e w' ⟨A', c', he, ht, hb⟩ => ⟨_, he, A', c', rfl, ht, hb⟩
  have HRO : Hid (∀ W, Tlvs W A l → Calls Tryd.prog 24 #[.agg #[.string m, .slice A l.length ca], .int .i64 no] W fun e w' => ∃ x, e = .returned x ∧ ∃ B d, x = .agg #[.string m, .slice B (outL no l).length d] ∧ Tlvs w' B (outL no l) ∧ Below W.heap.size W w') := fun W hW => (mrwithout_any m A ca l no W hW (by omega)).mono fun e w' ⟨A', c', he, ht, hb⟩ => ⟨_, he, A', c', rfl, ht, hb⟩
  have HF1 := Lib.hid (fun A' c' W hW => mget_any m A' c' (withL no t l) no W hW hwl)
  have HF2 := Lib.hid (fun A' c' W hW => mget_any m A' c' (outL no l) no W hW hol)
  rw [(with_find no t l).1, (with_find no t l).2] at HF1
  rw [out_find no l] at HF2
  have HE1 := Lib.hid (fun A' c' B' d' W h1 h2 => mrsame_any m A' c' (withL no t l) m B' d' (withL no t l) W h1 h2 hwl)
  have HE2 := Lib.hid (fun A' c' B' d' W h1 h2 => mrsame_any m A' c' (outL no l) m B' d' (outL no l) W h1 h2 hol)
  have HE3 := Lib.hid (fun A' c' W h1 h2 => mrsame_any m A' c' l m A ca l W h1 h2 (by omega))
  rw [sameM_refl] at HE1 HE2 HE3
  clear hK hL hf hg hh hwl hol hl
  generalize withL no t l = WL at *
  generalize outL no l = OL at *
  generalize findS OL no = fs at *
  generalize WL.length = wn at *
  generalize OL.length = on at *
  generalize l.length = n at *
  go_enter Tryd.func5, Tryd.ntmps5
  go_wp2_with fail
  generalize w.alloc (.cells #[.string m, .slice A n ca] 27) = U at *
  refine (mawake_any _ HK.out).mono ?_
  rintro e w1 ⟨rfl, hb1⟩
  have HB1 := Lib.hid (hbt HB0.out hb1)
  have HL1 := Lib.hid (HL.out.below hb1)
  have HX1 := Lib.hid (HX0.out.below hb1)
  obtain ⟨b0, b1, _, _⟩ := obj_cells HX1.out
  clear hb1 HL HX0 HK
  go_wp2_with fail
  refine (HG.out _ HL1.out).mono ?_
  rintro e w2 ⟨rfl, hb2⟩
  have HB2 := Lib.hid (hbt HB1.out hb2)
  have HL2 := Lib.hid (HL1.out.below hb2)
  have HX2 := Lib.hid (HX1.out.below hb2)
  obtain ⟨b0, b1, _, _⟩ := obj_cells HX2.out
  clear hb2 HL1 HX1
  go_wp2_with fail
  refine (HY.out _ HL2.out).mono ?_
  rintro e w3 ⟨AO, cO, rfl, ht3, hb3⟩
  have HB3 := Lib.hid (hbt (hbt HB2.out hb3) (below_al w3 (.cells #[.string m, .slice AO n cO] 27)))
  have HL3 := Lib.hid ((HL2.out.below hb3).below (below_al w3 (.cells #[.string m, .slice AO n cO] 27)))
  have HX3 := Lib.hid ((HX2.out.below hb3).below (below_al w3 (.cells #[.string m, .slice AO n cO] 27)))
  have HT3 := Lib.hid (ht3.below (below_al w3 (.cells #[.string m, .slice AO n cO] 27)))
  have HO3 := Lib.hid (mbox_new w3 m AO n cO)
  clear hb3 ht3 b0 b1 HL2 HX2
  go_upto_region 4 with fail
  generalize w3.alloc (.cells #[.string m, .slice AO n cO] 27) = W3 at *
  generalize w3.heap.size = go at *
  go_cut [8, 9] (fun s8 s9 wx => ∃ (p q : Nat) (A4 : Option Addr) (c4 : Nat) (A5 : Option Addr) (c5 : Nat), s8 = .pointer (some ⟨p, 0, none⟩) ∧ s9 = .pointer (some ⟨q, 0, none⟩) ∧ MBox wx p m A4 wn c4 ∧ Tlvs wx A4 WL ∧ MBox wx q m A5 on c5 ∧ Tlvs wx A5 OL ∧ Below W3.heap.size W3 wx)
  case first =>
    refine wp_region_noPanic ?_
    refine wp_region_held_drew (S := (fun u => Below W3.heap.size W3 u)) (by kernel_rfl) ((Below.refl _ _).drew) (fun hS => ?_)
    refine give_val (i := 0) (v := ?_) rfl (by kernel_rfl) (by kernel_rfl) (by kernel_rfl) (fun _ _ _ h => h) (by rfl) (fun u hu => ?_) hS ?_
    rotate_left
    · ((have hT := HO3.out.below hu; obtain ⟨b0, b1, _, _⟩ := obj_cells hT; clear hT); go_simp; try (with_reducible rfl))
    try simp only [Act.put, List.setIfInBounds_toArray, List.set_cons_zero, List.set_cons_succ]
    refine give_val (i := 1) (v := ?_) rfl (by kernel_rfl) (by kernel_rfl) (by kernel_rfl) (fun _ _ _ h => h) (by rfl) (fun u hu => ?_) hS ?_
    rotate_left
    · ((have hT := HO3.out.below hu; obtain ⟨b0, b1, _, _⟩ := obj_cells hT; clear hT); go_simp; try (with_reducible rfl))
    try simp only [Act.put, List.setIfInBounds_toArray, List.set_cons_zero, List.set_cons_succ]
    refine give_val (i := 2) (v := ?_) rfl (by kernel_rfl) (by kernel_rfl) (by kernel_rfl) (fun _ _ _ h => h) (by rfl) (fun u hu => ?_) hS ?_
    rotate_left
    · ((have hT := HO3.out.below hu; obtain ⟨b0, b1, _, _⟩ := obj_cells hT; clear hT); go_simp; try (with_reducible rfl))
    try simp only [Act.put, List.setIfInBounds_toArray, List.set_cons_zero, List.set_cons_succ]
    refine give_val (i := 4) (v := ?_) rfl (by kernel_rfl) (by kernel_rfl) (by kernel_rfl) (fun _ _ _ h => h) (by rfl) (fun u hu => ?_) hS ?_
    rotate_left
    · ((have hT := HO3.out.below hu; obtain ⟨b0, b1, _, _⟩ := obj_cells hT; clear hT); go_simp; try (with_reducible rfl))
    try simp only [Act.put, List.setIfInBounds_toArray, List.set_cons_zero, List.set_cons_succ]
    refine give_val (i := 5) (v := ?_) rfl (by kernel_rfl) (by kernel_rfl) (by kernel_rfl) (fun _ _ _ h => h) (by rfl) (fun u hu => ?_) hS ?_
    rotate_left
    · ((have hT := HO3.out.below hu; obtain ⟨b0, b1, _, _⟩ := obj_cells hT; clear hT); go_simp; try (with_reducible rfl))
    try simp only [Act.put, List.setIfInBounds_toArray, List.set_cons_zero, List.set_cons_succ]
    refine wpAnyH_ready (rs := [3, 7, 8]) (by kernel_rfl) (by simp) (arm_some (i := 3) 20 #[.agg #[.string m, .slice AO n cO], .int .i64 no, .string t] rfl (by rfl) (HWI.out AO cO _ (HT3.out.below hS)) ?_ ?_ (arm_alloc (i := 7) (.cells #[.string ⟨#[]⟩, .slice none 0 0] 27) rfl (by rfl) ?_ ?_ (arm_alloc (i := 8) (.cells #[.string ⟨#[]⟩, .slice none 0 0] 27) rfl (by rfl) ?_ ?_ AllReadyH.nil)))
    · (go_simp; try (with_reducible rfl))
    · intro v3 u' hT
      obtain ⟨A3, c3, rfl, ht3, hb⟩ := hT
      have hS' : (fun u => Below W3.heap.size W3 u) u' := hbt hS hb
      refine ⟨hS', ?_⟩
      clear hS hb
      have hS := hS'; clear hS'
      rename World => u
      try simp only [Act.put, List.setIfInBounds_toArray, List.set_cons_zero, List.set_cons_succ]
      refine wpAnyH_ready (rs := [6, 7, 8]) (by kernel_rfl) (by simp) (arm_some (i := 6) 21 #[.agg #[.string m, .slice AO n cO], .int .i64 no] rfl (by rfl) (HWO.out AO cO _ (HT3.out.below hS)) ?_ ?_ (arm_alloc (i := 7) (.cells #[.string ⟨#[]⟩, .slice none 0 0] 27) rfl (by rfl) ?_ ?_ (arm_alloc (i := 8) (.cells #[.string ⟨#[]⟩, .slice none 0 0] 27) rfl (by rfl) ?_ ?_ AllReadyH.nil)))
      · (go_simp; try (with_reducible rfl))
      · intro v6 u' hT
        obtain ⟨A6, c6, rfl, ht6, hb⟩ := hT
        have hS' : (fun u => Below W3.heap.size W3 u) u' := hbt hS hb
        refine ⟨hS', ?_⟩
        replace ht3 := ht3.below hb
        clear hS hb
        have hS := hS'; clear hS'
        rename World => u
        try simp only [Act.put, List.setIfInBounds_toArray, List.set_cons_zero, List.set_cons_succ]
        refine wpAnyH_ready (rs := [7, 8]) (by kernel_rfl) (by simp) (arm_alloc (i := 7) (.cells #[.string ⟨#[]⟩, .slice none 0 0] 27) rfl (by rfl) ?_ ?_ (arm_alloc (i := 8) (.cells #[.string ⟨#[]⟩, .slice none 0 0] 27) rfl (by rfl) ?_ ?_ AllReadyH.nil))
        · (go_simp; try (with_reducible rfl))
        · intro p7 u' hb ho7 hp7
          replace hp7 := Nat.le_trans (hS.size) hp7
          have hS' : (fun u => Below W3.heap.size W3 u) u' := hbt hS hb
          refine ⟨hS', ?_⟩
          replace ht3 := ht3.below hb
          replace ht6 := ht6.below hb
          clear hS hb
          have hS := hS'; clear hS'
          rename World => u
          try simp only [Act.put, List.setIfInBounds_toArray, List.set_cons_zero, List.set_cons_succ]
          refine wpAnyH_ready (rs := [8]) (by kernel_rfl) (by simp) (arm_alloc (i := 8) (.cells #[.string ⟨#[]⟩, .slice none 0 0] 27) rfl (by rfl) ?_ ?_ AllReadyH.nil)
          · (go_simp; try (with_reducible rfl))
          · intro p8 u' hb ho8 hp8
            have ne7_8 : p7 ≠ p8 := by have := obj_lt ho7; omega
            replace hp8 := Nat.le_trans (hS.size) hp8
            have hS' : (fun u => Below W3.heap.size W3 u) u' := hbt hS hb
            refine ⟨hS', ?_⟩
            replace ho7 := obj_below ho7 hb
            replace ht3 := ht3.below hb
            replace ht6 := ht6.below hb
            clear hS hb
            have hS := hS'; clear hS'
            rename World => u
            try simp only [Act.put, List.setIfInBounds_toArray, List.set_cons_zero, List.set_cons_succ]
            obtain ⟨d0, d1, f0, f1⟩ := obj_cells ho7
            have hr7 := obj_set2 ho7 (.string m) (.slice A3 wn c3)
            have ho9 := obj_set_other ho8 (Ne.symm ne7_8) (.string m) (.slice A3 wn c3)
            have hv3 := vals_store2 ht3 ho7 m A3 wn c3
            have hv6 := vals_store2 ht6 ho7 m A3 wn c3
            have hS4 : Below W3.heap.size W3 _ := below_set2 hS hp7 (.string m) (.slice A3 wn c3)
            refine only (i := 9) rfl (by kernel_rfl) (by rfl) (fun K hK => ?_)
            go_simp
            refine hK.out _ _ hS4 ?_
            clear hK
            try simp only [Act.put, List.setIfInBounds_toArray, List.set_cons_zero, List.set_cons_succ]
            clear d0 d1 f0 f1 hS ho7 ho8 ht3 ht6
            generalize ((u.setCell _ _).setCell _ _) = u4 at *
            obtain ⟨d0, d1, f0, f1⟩ := obj_cells ho9
            have hr8 := obj_set2 ho9 (.string m) (.slice A6 on c6)
            have hr7' := obj_set_other hr7 ne7_8 (.string m) (.slice A6 on c6)
            have hw3 := vals_store2 hv3 ho9 m A6 on c6
            have hw6 := vals_store2 hv6 ho9 m A6 on c6
            have hS5 : Below W3.heap.size W3 _ := below_set2 hS4 hp8 (.string m) (.slice A6 on c6)
            refine only (i := 10) rfl (by kernel_rfl) (by rfl) (fun K hK => ?_)
            go_simp
            refine hK.out _ _ hS5 ?_
            clear hK
            try simp only [Act.put, List.setIfInBounds_toArray, List.set_cons_zero, List.set_cons_succ]
            refine wpAnyH_done (by kernel_rfl) (NoPanic.normal ?_) _
            go_wp2_with fail
            go_meet
            exact ⟨p7, p8, A3, c3, A6, c6, rfl, rfl, hr7', hw3, hr8, hw6, hS5⟩
        · (go_simp; try (with_reducible rfl))
        · intro p8 u' hb ho8 hp8
          replace hp8 := Nat.le_trans (hS.size) hp8
          have hS' : (fun u => Below W3.heap.size W3 u) u' := hbt hS hb
          refine ⟨hS', ?_⟩
          replace ht3 := ht3.below hb
          replace ht6 := ht6.below hb
          clear hS hb
          have hS := hS'; clear hS'
          rename World => u
          try simp only [Act.put, List.setIfInBounds_toArray, List.set_cons_zero, List.set_cons_succ]
          refine wpAnyH_ready (rs := [7]) (by kernel_rfl) (by simp) (arm_alloc (i := 7) (.cells #[.string ⟨#[]⟩, .slice none 0 0] 27) rfl (by rfl) ?_ ?_ AllReadyH.nil)
          · (go_simp; try (with_reducible rfl))
          · intro p7 u' hb ho7 hp7
            have ne7_8 : p7 ≠ p8 := by have := obj_lt ho8; omega
            replace hp7 := Nat.le_trans (hS.size) hp7
            have hS' : (fun u => Below W3.heap.size W3 u) u' := hbt hS hb
            refine ⟨hS', ?_⟩
            replace ho8 := obj_below ho8 hb
            replace ht3 := ht3.below hb
            replace ht6 := ht6.below hb
            clear hS hb
            have hS := hS'; clear hS'
            rename World => u
            try simp only [Act.put, List.setIfInBounds_toArray, List.set_cons_zero, List.set_cons_succ]
            obtain ⟨d0, d1, f0, f1⟩ := obj_cells ho7
            have hr7 := obj_set2 ho7 (.string m) (.slice A3 wn c3)
            have ho9 := obj_set_other ho8 (Ne.symm ne7_8) (.string m) (.slice A3 wn c3)
            have hv3 := vals_store2 ht3 ho7 m A3 wn c3
            have hv6 := vals_store2 ht6 ho7 m A3 wn c3
            have hS4 : Below W3.heap.size W3 _ := below_set2 hS hp7 (.string m) (.slice A3 wn c3)
            refine only (i := 9) rfl (by kernel_rfl) (by rfl) (fun K hK => ?_)
            go_simp
            refine hK.out _ _ hS4 ?_
            clear hK
            try simp only [Act.put, List.setIfInBounds_toArray, List.set_cons_zero, List.set_cons_succ]
            clear d0 d1 f0 f1 hS ho7 ho8 ht3 ht6
            generalize ((u.setCell _ _).setCell _ _) = u4 at *
            obtain ⟨d0, d1, f0, f1⟩ := obj_cells ho9
            have hr8 := obj_set2 ho9 (.string m) (.slice A6 on c6)
            have hr7' := obj_set_other hr7 ne7_8 (.string m) (.slice A6 on c6)
            have hw3 := vals_store2 hv3 ho9 m A6 on c6
            have hw6 := vals_store2 hv6 ho9 m A6 on c6
            have hS5 : Below W3.heap.size W3 _ := below_set2 hS4 hp8 (.string m) (.slice A6 on c6)
            refine only (i := 10) rfl (by kernel_rfl) (by rfl) (fun K hK => ?_)
            go_simp
            refine hK.out _ _ hS5 ?_
            clear hK
            try simp only [Act.put, List.setIfInBounds_toArray, List.set_cons_zero, List.set_cons_succ]
            refine wpAnyH_done (by kernel_rfl) (NoPanic.normal ?_) _
            go_wp2_with fail
            go_meet
            exact ⟨p7, p8, A3, c3, A6, c6, rfl, rfl, hr7', hw3, hr8, hw6, hS5⟩
      · (go_simp; try (with_reducible rfl))
      · intro p7 u' hb ho7 hp7
        replace hp7 := Nat.le_trans (hS.size) hp7
        have hS' : (fun u => Below W3.heap.size W3 u) u' := hbt hS hb
        refine ⟨hS', ?_⟩
        replace ht3 := ht3.below hb
        clear hS hb
        have hS := hS'; clear hS'
        rename World => u
        try simp only [Act.put, List.setIfInBounds_toArray, List.set_cons_zero, List.set_cons_succ]
        refine wpAnyH_ready (rs := [6, 8]) (by kernel_rfl) (by simp) (arm_some (i := 6) 21 #[.agg #[.string m, .slice AO n cO], .int .i64 no] rfl (by rfl) (HWO.out AO cO _ (HT3.out.below hS)) ?_ ?_ (arm_alloc (i := 8) (.cells #[.string ⟨#[]⟩, .slice none 0 0] 27) rfl (by rfl) ?_ ?_ AllReadyH.nil))
        · (go_simp; try (with_reducible rfl))
        · intro v6 u' hT
          obtain ⟨A6, c6, rfl, ht6, hb⟩ := hT
          have hS' : (fun u => Below W3.heap.size W3 u) u' := hbt hS hb
          refine ⟨hS', ?_⟩
          replace ho7 := obj_below ho7 hb
          replace ht3 := ht3.below hb
          clear hS hb
          have hS := hS'; clear hS'
          rename World => u
          try simp only [Act.put, List.setIfInBounds_toArray, List.set_cons_zero, List.set_cons_succ]
          refine wpAnyH_ready (rs := [8]) (by kernel_rfl) (by simp) (arm_alloc (i := 8) (.cells #[.string ⟨#[]⟩, .slice none 0 0] 27) rfl (by rfl) ?_ ?_ AllReadyH.nil)
          · (go_simp; try (with_reducible rfl))
          · intro p8 u' hb ho8 hp8
            have ne7_8 : p7 ≠ p8 := by have := obj_lt ho7; omega
            replace hp8 := Nat.le_trans (hS.size) hp8
            have hS' : (fun u => Below W3.heap.size W3 u) u' := hbt hS hb
            refine ⟨hS', ?_⟩
            replace ho7 := obj_below ho7 hb
            replace ht3 := ht3.below hb
            replace ht6 := ht6.below hb
            clear hS hb
            have hS := hS'; clear hS'
            rename World => u
            try simp only [Act.put, List.setIfInBounds_toArray, List.set_cons_zero, List.set_cons_succ]
            obtain ⟨d0, d1, f0, f1⟩ := obj_cells ho7
            have hr7 := obj_set2 ho7 (.string m) (.slice A3 wn c3)
            have ho9 := obj_set_other ho8 (Ne.symm ne7_8) (.string m) (.slice A3 wn c3)
            have hv3 := vals_store2 ht3 ho7 m A3 wn c3
            have hv6 := vals_store2 ht6 ho7 m A3 wn c3
            have hS4 : Below W3.heap.size W3 _ := below_set2 hS hp7 (.string m) (.slice A3 wn c3)
            refine only (i := 9) rfl (by kernel_rfl) (by rfl) (fun K hK => ?_)
            go_simp
            refine hK.out _ _ hS4 ?_
            clear hK
            try simp only [Act.put, List.setIfInBounds_toArray, List.set_cons_zero, List.set_cons_succ]
            clear d0 d1 f0 f1 hS ho7 ho8 ht3 ht6
            generalize ((u.setCell _ _).setCell _ _) = u4 at *
            obtain ⟨d0, d1, f0, f1⟩ := obj_cells ho9
            have hr8 := obj_set2 ho9 (.string m) (.slice A6 on c6)
            have hr7' := obj_set_other hr7 ne7_8 (.string m) (.slice A6 on c6)
            have hw3 := vals_store2 hv3 ho9 m A6 on c6
            have hw6 := vals_store2 hv6 ho9 m A6 on c6
            have hS5 : Below W3.heap.size W3 _ := below_set2 hS4 hp8 (.string m) (.slice A6 on c6)
            refine only (i := 10) rfl (by kernel_rfl) (by rfl) (fun K hK => ?_)
            go_simp
            refine hK.out _ _ hS5 ?_
            clear hK
            try simp only [Act.put, List.setIfInBounds_toArray, List.set_cons_zero, List.set_cons_succ]
            refine wpAnyH_done (by kernel_rfl) (NoPanic.normal ?_) _
            go_wp2_with fail
            go_meet
            exact ⟨p7, p8, A3, c3, A6, c6, rfl, rfl, hr7', hw3, hr8, hw6, hS5⟩
        · (go_simp; try (with_reducible rfl))
        · intro p8 u' hb ho8 hp8
          have ne7_8 : p7 ≠ p8 := by have := obj_lt ho7; omega
          replace hp8 := Nat.le_trans (hS.size) hp8
          have hS' : (fun u => Below W3.heap.size W3 u) u' := hbt hS hb
          refine ⟨hS', ?_⟩
          replace ho7 := obj_below ho7 hb
          replace ht3 := ht3.below hb
          clear hS hb
          have hS := hS'; clear hS'
          rename World => u
          try simp only [Act.put, List.setIfInBounds_toArray, List.set_cons_zero, List.set_cons_succ]
          refine wpAnyH_ready (rs := [6]) (by kernel_rfl) (by simp) (arm_some (i := 6) 21 #[.agg #[.string m, .slice AO n cO], .int .i64 no] rfl (by rfl) (HWO.out AO cO _ (HT3.out.below hS)) ?_ ?_ AllReadyH.nil)
          · (go_simp; try (with_reducible rfl))
          · intro v6 u' hT
            obtain ⟨A6, c6, rfl, ht6, hb⟩ := hT
            have hS' : (fun u => Below W3.heap.size W3 u) u' := hbt hS hb
            refine ⟨hS', ?_⟩
            replace ho7 := obj_below ho7 hb
            replace ho8 := obj_below ho8 hb
            replace ht3 := ht3.below hb
            clear hS hb
            have hS := hS'; clear hS'
            rename World => u
            try simp only [Act.put, List.setIfInBounds_toArray, List.set_cons_zero, List.set_cons_succ]
            obtain ⟨d0, d1, f0, f1⟩ := obj_cells ho7
            have hr7 := obj_set2 ho7 (.string m) (.slice A3 wn c3)
            have ho9 := obj_set_other ho8 (Ne.symm ne7_8) (.string m) (.slice A3 wn c3)
            have hv3 := vals_store2 ht3 ho7 m A3 wn c3
            have hv6 := vals_store2 ht6 ho7 m A3 wn c3
            have hS4 : Below W3.heap.size W3 _ := below_set2 hS hp7 (.string m) (.slice A3 wn c3)
            refine only (i := 9) rfl (by kernel_rfl) (by rfl) (fun K hK => ?_)
            go_simp
            refine hK.out _ _ hS4 ?_
            clear hK
            try simp only [Act.put, List.setIfInBounds_toArray, List.set_cons_zero, List.set_cons_succ]
            clear d0 d1 f0 f1 hS ho7 ho8 ht3 ht6
            generalize ((u.setCell _ _).setCell _ _) = u4 at *
            obtain ⟨d0, d1, f0, f1⟩ := obj_cells ho9
            have hr8 := obj_set2 ho9 (.string m) (.slice A6 on c6)
            have hr7' := obj_set_other hr7 ne7_8 (.string m) (.slice A6 on c6)
            have hw3 := vals_store2 hv3 ho9 m A6 on c6
            have hw6 := vals_store2 hv6 ho9 m A6 on c6
            have hS5 : Below W3.heap.size W3 _ := below_set2 hS4 hp8 (.string m) (.slice A6 on c6)
            refine only (i := 10) rfl (by kernel_rfl) (by rfl) (fun K hK => ?_)
            go_simp
            refine hK.out _ _ hS5 ?_
            clear hK
            try simp only [Act.put, List.setIfInBounds_toArray, List.set_cons_zero, List.set_cons_succ]
            refine wpAnyH_done (by kernel_rfl) (NoPanic.normal ?_) _
            go_wp2_with fail
            go_meet
            exact ⟨p7, p8, A3, c3, A6, c6, rfl, rfl, hr7', hw3, hr8, hw6, hS5⟩
      · (go_simp; try (with_reducible rfl))
      · intro p8 u' hb ho8 hp8
        replace hp8 := Nat.le_trans (hS.size) hp8
        have hS' : (fun u => Below W3.heap.size W3 u) u' := hbt hS hb
        refine ⟨hS', ?_⟩
        replace ht3 := ht3.below hb
        clear hS hb
        have hS := hS'; clear hS'
        rename World => u
        try simp only [Act.put, List.setIfInBounds_toArray, List.set_cons_zero, List.set_cons_succ]
        refine wpAnyH_ready (rs := [6, 7]) (by kernel_rfl) (by simp) (arm_some (i := 6) 21 #[.agg #[.string m, .slice AO n cO], .int .i64 no] rfl (by rfl) (HWO.out AO cO _ (HT3.out.below hS)) ?_ ?_ (arm_alloc (i := 7) (.cells #[.string ⟨#[]⟩, .slice none 0 0] 27) rfl (by rfl) ?_ ?_ AllReadyH.nil))
        · (go_simp; try (with_reducible rfl))
        · intro v6 u' hT
          obtain ⟨A6, c6, rfl, ht6, hb⟩ := hT
          have hS' : (fun u => Below W3.heap.size W3 u) u' := hbt hS hb
          refine ⟨hS', ?_⟩
          replace ho8 := obj_below ho8 hb
          replace ht3 := ht3.below hb
          clear hS hb
          have hS := hS'; clear hS'
          rename World => u
          try simp only [Act.put, List.setIfInBounds_toArray, List.set_cons_zero, List.set_cons_succ]
          refine wpAnyH_ready (rs := [7]) (by kernel_rfl) (by simp) (arm_alloc (i := 7) (.cells #[.string ⟨#[]⟩, .slice none 0 0] 27) rfl (by rfl) ?_ ?_ AllReadyH.nil)
          · (go_simp; try (with_reducible rfl))
          · intro p7 u' hb ho7 hp7
            have ne7_8 : p7 ≠ p8 := by have := obj_lt ho8; omega
            replace hp7 := Nat.le_trans (hS.size) hp7
            have hS' : (fun u => Below W3.heap.size W3 u) u' := hbt hS hb
            refine ⟨hS', ?_⟩
            replace ho8 := obj_below ho8 hb
            replace ht3 := ht3.below hb
            replace ht6 := ht6.below hb
            clear hS hb
            have hS := hS'; clear hS'
            rename World => u
            try simp only [Act.put, List.setIfInBounds_toArray, List.set_cons_zero, List.set_cons_succ]
            obtain ⟨d0, d1, f0, f1⟩ := obj_cells ho7
            have hr7 := obj_set2 ho7 (.string m) (.slice A3 wn c3)
            have ho9 := obj_set_other ho8 (Ne.symm ne7_8) (.string m) (.slice A3 wn c3)
            have hv3 := vals_store2 ht3 ho7 m A3 wn c3
            have hv6 := vals_store2 ht6 ho7 m A3 wn c3
            have hS4 : Below W3.heap.size W3 _ := below_set2 hS hp7 (.string m) (.slice A3 wn c3)
            refine only (i := 9) rfl (by kernel_rfl) (by rfl) (fun K hK => ?_)
            go_simp
            refine hK.out _ _ hS4 ?_
            clear hK
            try simp only [Act.put, List.setIfInBounds_toArray, List.set_cons_zero, List.set_cons_succ]
            clear d0 d1 f0 f1 hS ho7 ho8 ht3 ht6
            generalize ((u.setCell _ _).setCell _ _) = u4 at *
            obtain ⟨d0, d1, f0, f1⟩ := obj_cells ho9
            have hr8 := obj_set2 ho9 (.string m) (.slice A6 on c6)
            have hr7' := obj_set_other hr7 ne7_8 (.string m) (.slice A6 on c6)
            have hw3 := vals_store2 hv3 ho9 m A6 on c6
            have hw6 := vals_store2 hv6 ho9 m A6 on c6
            have hS5 : Below W3.heap.size W3 _ := below_set2 hS4 hp8 (.string m) (.slice A6 on c6)
            refine only (i := 10) rfl (by kernel_rfl) (by rfl) (fun K hK => ?_)
            go_simp
            refine hK.out _ _ hS5 ?_
            clear hK
            try simp only [Act.put, List.setIfInBounds_toArray, List.set_cons_zero, List.set_cons_succ]
            refine wpAnyH_done (by kernel_rfl) (NoPanic.normal ?_) _
            go_wp2_with fail
            go_meet
            exact ⟨p7, p8, A3, c3, A6, c6, rfl, rfl, hr7', hw3, hr8, hw6, hS5⟩
        · (go_simp; try (with_reducible rfl))
        · intro p7 u' hb ho7 hp7
          have ne7_8 : p7 ≠ p8 := by have := obj_lt ho8; omega
          replace hp7 := Nat.le_trans (hS.size) hp7
          have hS' : (fun u => Below W3.heap.size W3 u) u' := hbt hS hb
          refine ⟨hS', ?_⟩
          replace ho8 := obj_below ho8 hb
          replace ht3 := ht3.below hb
          clear hS hb
          have hS := hS'; clear hS'
          rename World => u
          try simp only [Act.put, List.setIfInBounds_toArray, List.set_cons_zero, List.set_cons_succ]
          refine wpAnyH_ready (rs := [6]) (by kernel_rfl) (by simp) (arm_some (i := 6) 21 #[.agg #[.string m, .slice AO n cO], .int .i64 no] rfl (by rfl) (HWO.out AO cO _ (HT3.out.below hS)) ?_ ?_ AllReadyH.nil)
          · (go_simp; try (with_reducible rfl))
          · intro v6 u' hT
            obtain ⟨A6, c6, rfl, ht6, hb⟩ := hT
            have hS' : (fun u => Below W3.heap.size W3 u) u' := hbt hS hb
            refine ⟨hS', ?_⟩
            replace ho8 := obj_below ho8 hb
            replace ho7 := obj_below ho7 hb
            replace ht3 := ht3.below hb
            clear hS hb
            have hS := hS'; clear hS'
            rename World => u
            try simp only [Act.put, List.setIfInBounds_toArray, List.set_cons_zero, List.set_cons_succ]
            obtain ⟨d0, d1, f0, f1⟩ := obj_cells ho7
            have hr7 := obj_set2 ho7 (.string m) (.slice A3 wn c3)
            have ho9 := obj_set_other ho8 (Ne.symm ne7_8) (.string m) (.slice A3 wn c3)
            have hv3 := vals_store2 ht3 ho7 m A3 wn c3
            have hv6 := vals_store2 ht6 ho7 m A3 wn c3
            have hS4 : Below W3.heap.size W3 _ := below_set2 hS hp7 (.string m) (.slice A3 wn c3)
            refine only (i := 9) rfl (by kernel_rfl) (by rfl) (fun K hK => ?_)
            go_simp
            refine hK.out _ _ hS4 ?_
            clear hK
            try simp only [Act.put, List.setIfInBounds_toArray, List.set_cons_zero, List.set_cons_succ]
            clear d0 d1 f0 f1 hS ho7 ho8 ht3 ht6
            generalize ((u.setCell _ _).setCell _ _) = u4 at *
            obtain ⟨d0, d1, f0, f1⟩ := obj_cells ho9
            have hr8 := obj_set2 ho9 (.string m) (.slice A6 on c6)
            have hr7' := obj_set_other hr7 ne7_8 (.string m) (.slice A6 on c6)
            have hw3 := vals_store2 hv3 ho9 m A6 on c6
            have hw6 := vals_store2 hv6 ho9 m A6 on c6
            have hS5 : Below W3.heap.size W3 _ := below_set2 hS4 hp8 (.string m) (.slice A6 on c6)
            refine only (i := 10) rfl (by kernel_rfl) (by rfl) (fun K hK => ?_)
            go_simp
            refine hK.out _ _ hS5 ?_
            clear hK
            try simp only [Act.put, List.setIfInBounds_toArray, List.set_cons_zero, List.set_cons_succ]
            refine wpAnyH_done (by kernel_rfl) (NoPanic.normal ?_) _
            go_wp2_with fail
            go_meet
            exact ⟨p7, p8, A3, c3, A6, c6, rfl, rfl, hr7', hw3, hr8, hw6, hS5⟩
    · (go_simp; try (with_reducible rfl))
    · intro p7 u' hb ho7 hp7
      replace hp7 := Nat.le_trans (hS.size) hp7
      have hS' : (fun u => Below W3.heap.size W3 u) u' := hbt hS hb
      refine ⟨hS', ?_⟩
      clear hS hb
      have hS := hS'; clear hS'
      rename World => u
      try simp only [Act.put, List.setIfInBounds_toArray, List.set_cons_zero, List.set_cons_succ]
      refine wpAnyH_ready (rs := [3, 8]) (by kernel_rfl) (by simp) (arm_some (i := 3) 20 #[.agg #[.string m, .slice AO n cO], .int .i64 no, .string t] rfl (by rfl) (HWI.out AO cO _ (HT3.out.below hS)) ?_ ?_ (arm_alloc (i := 8) (.cells #[.string ⟨#[]⟩, .slice none 0 0] 27) rfl (by rfl) ?_ ?_ AllReadyH.nil))
      · (go_simp; try (with_reducible rfl))
      · intro v3 u' hT
        obtain ⟨A3, c3, rfl, ht3, hb⟩ := hT
        have hS' : (fun u => Below W3.heap.size W3 u) u' := hbt hS hb
        refine ⟨hS', ?_⟩
        replace ho7 := obj_below ho7 hb
        clear hS hb
        have hS := hS'; clear hS'
        rename World => u
        try simp only [Act.put, List.setIfInBounds_toArray, List.set_cons_zero, List.set_cons_succ]
        refine wpAnyH_ready (rs := [6, 8]) (by kernel_rfl) (by simp) (arm_some (i := 6) 21 #[.agg #[.string m, .slice AO n cO], .int .i64 no] rfl (by rfl) (HWO.out AO cO _ (HT3.out.below hS)) ?_ ?_ (arm_alloc (i := 8) (.cells #[.string ⟨#[]⟩, .slice none 0 0] 27) rfl (by rfl) ?_ ?_ AllReadyH.nil))
        · (go_simp; try (with_reducible rfl))
        · intro v6 u' hT
          obtain ⟨A6, c6, rfl, ht6, hb⟩ := hT
          have hS' : (fun u => Below W3.heap.size W3 u) u' := hbt hS hb
          refine ⟨hS', ?_⟩
          replace ho7 := obj_below ho7 hb
          replace ht3 := ht3.below hb
          clear hS hb
          have hS := hS'; clear hS'
          rename World => u
          try simp only [Act.put, List.setIfInBounds_toArray, List.set_cons_zero, List.set_cons_succ]
          refine wpAnyH_ready (rs := [8]) (by kernel_rfl) (by simp) (arm_alloc (i := 8) (.cells #[.string ⟨#[]⟩, .slice none 0 0] 27) rfl (by rfl) ?_ ?_ AllReadyH.nil)
          · (go_simp; try (with_reducible rfl))
          · intro p8 u' hb ho8 hp8
            have ne7_8 : p7 ≠ p8 := by have := obj_lt ho7; omega
            replace hp8 := Nat.le_trans (hS.size) hp8
            have hS' : (fun u => Below W3.heap.size W3 u) u' := hbt hS hb
            refine ⟨hS', ?_⟩
            replace ho7 := obj_below ho7 hb
            replace ht3 := ht3.below hb
            replace ht6 := ht6.below hb
            clear hS hb
            have hS := hS'; clear hS'
            rename World => u
            try simp only [Act.put, List.setIfInBounds_toArray, List.set_cons_zero, List.set_cons_succ]
            obtain ⟨d0, d1, f0, f1⟩ := obj_cells ho7
            have hr7 := obj_set2 ho7 (.string m) (.slice A3 wn c3)
            have ho9 := obj_set_other ho8 (Ne.symm ne7_8) (.string m) (.slice A3 wn c3)
            have hv3 := vals_store2 ht3 ho7 m A3 wn c3
            have hv6 := vals_store2 ht6 ho7 m A3 wn c3
            have hS4 : Below W3.heap.size W3 _ := below_set2 hS hp7 (.string m) (.slice A3 wn c3)
            refine only (i := 9) rfl (by kernel_rfl) (by rfl) (fun K hK => ?_)
            go_simp
            refine hK.out _ _ hS4 ?_
            clear hK
            try simp only [Act.put, List.setIfInBounds_toArray, List.set_cons_zero, List.set_cons_succ]
            clear d0 d1 f0 f1 hS ho7 ho8 ht3 ht6
            generalize ((u.setCell _ _).setCell _ _) = u4 at *
            obtain ⟨d0, d1, f0, f1⟩ := obj_cells ho9
            have hr8 := obj_set2 ho9 (.string m) (.slice A6 on c6)
            have hr7' := obj_set_other hr7 ne7_8 (.string m) (.slice A6 on c6)
            have hw3 := vals_store2 hv3 ho9 m A6 on c6
            have hw6 := vals_store2 hv6 ho9 m A6 on c6
            have hS5 : Below W3.heap.size W3 _ := below_set2 hS4 hp8 (.string m) (.slice A6 on c6)
            refine only (i := 10) rfl (by kernel_rfl) (by rfl) (fun K hK => ?_)
            go_simp
            refine hK.out _ _ hS5 ?_
            clear hK
            try simp only [Act.put, List.setIfInBounds_toArray, List.set_cons_zero, List.set_cons_succ]
            refine wpAnyH_done (by kernel_rfl) (NoPanic.normal ?_) _
            go_wp2_with fail
            go_meet
            exact ⟨p7, p8, A3, c3, A6, c6, rfl, rfl, hr7', hw3, hr8, hw6, hS5⟩
        · (go_simp; try (with_reducible rfl))
        · intro p8 u' hb ho8 hp8
          have ne7_8 : p7 ≠ p8 := by have := obj_lt ho7; omega
          replace hp8 := Nat.le_trans (hS.size) hp8
          have hS' : (fun u => Below W3.heap.size W3 u) u' := hbt hS hb
          refine ⟨hS', ?_⟩
          replace ho7 := obj_below ho7 hb
          replace ht3 := ht3.below hb
          clear hS hb
          have hS := hS'; clear hS'
          rename World => u
          try simp only [Act.put, List.setIfInBounds_toArray, List.set_cons_zero, List.set_cons_succ]
          refine wpAnyH_ready (rs := [6]) (by kernel_rfl) (by simp) (arm_some (i := 6) 21 #[.agg #[.string m, .slice AO n cO], .int .i64 no] rfl (by rfl) (HWO.out AO cO _ (HT3.out.below hS)) ?_ ?_ AllReadyH.nil)
          · (go_simp; try (with_reducible rfl))
          · intro v6 u' hT
            obtain ⟨A6, c6, rfl, ht6, hb⟩ := hT
            have hS' : (fun u => Below W3.heap.size W3 u) u' := hbt hS hb
            refine ⟨hS', ?_⟩
            replace ho7 := obj_below ho7 hb
            replace ho8 := obj_below ho8 hb
            replace ht3 := ht3.below hb
            clear hS hb
            have hS := hS'; clear hS'
            rename World => u
            try simp only [Act.put, List.setIfInBounds_toArray, List.set_cons_zero, List.set_cons_succ]
            obtain ⟨d0, d1, f0, f1⟩ := obj_cells ho7
            have hr7 := obj_set2 ho7 (.string m) (.slice A3 wn c3)
            have ho9 := obj_set_other ho8 (Ne.symm ne7_8) (.string m) (.slice A3 wn c3)
            have hv3 := vals_store2 ht3 ho7 m A3 wn c3
            have hv6 := vals_store2 ht6 ho7 m A3 wn c3
            have hS4 : Below W3.heap.size W3 _ := below_set2 hS hp7 (.string m) (.slice A3 wn c3)
            refine only (i := 9) rfl (by kernel_rfl) (by rfl) (fun K hK => ?_)
            go_simp
            refine hK.out _ _ hS4 ?_
            clear hK
            try simp only [Act.put, List.setIfInBounds_toArray, List.set_cons_zero, List.set_cons_succ]
            clear d0 d1 f0 f1 hS ho7 ho8 ht3 ht6
            generalize ((u.setCell _ _).setCell _ _) = u4 at *
            obtain ⟨d0, d1, f0, f1⟩ := obj_cells ho9
            have hr8 := obj_set2 ho9 (.string m) (.slice A6 on c6)
            have hr7' := obj_set_other hr7 ne7_8 (.string m) (.slice A6 on c6)
            have hw3 := vals_store2 hv3 ho9 m A6 on c6
            have hw6 := vals_store2 hv6 ho9 m A6 on c6
            have hS5 : Below W3.heap.size W3 _ := below_set2 hS4 hp8 (.string m) (.slice A6 on c6)
            refine only (i := 10) rfl (by kernel_rfl) (by rfl) (fun K hK => ?_)
            go_simp
            refine hK.out _ _ hS5 ?_
            clear hK
            try simp only [Act.put, List.setIfInBounds_toArray, List.set_cons_zero, List.set_cons_succ]
            refine wpAnyH_done (by kernel_rfl) (NoPanic.normal ?_) _
            go_wp2_with fail
            go_meet
            exact ⟨p7, p8, A3, c3, A6, c6, rfl, rfl, hr7', hw3, hr8, hw6, hS5⟩
      · (go_simp; try (with_reducible rfl))
      · intro p8 u' hb ho8 hp8
        have ne7_8 : p7 ≠ p8 := by have := obj_lt ho7; omega
        replace hp8 := Nat.le_trans (hS.size) hp8
        have hS' : (fun u => Below W3.heap.size W3 u) u' := hbt hS hb
        refine ⟨hS', ?_⟩
        replace ho7 := obj_below ho7 hb
        clear hS hb
        have hS := hS'; clear hS'
        rename World => u
        try simp only [Act.put, List.setIfInBounds_toArray, List.set_cons_zero, List.set_cons_succ]
        refine wpAnyH_ready (rs := [3]) (by kernel_rfl) (by simp) (arm_some (i := 3) 20 #[.agg #[.string m, .slice AO n cO], .int .i64 no, .string t] rfl (by rfl) (HWI.out AO cO _ (HT3.out.below hS)) ?_ ?_ AllReadyH.nil)
        · (go_simp; try (with_reducible rfl))
        · intro v3 u' hT
          obtain ⟨A3, c3, rfl, ht3, hb⟩ := hT
          have hS' : (fun u => Below W3.heap.size W3 u) u' := hbt hS hb
          refine ⟨hS', ?_⟩
          replace ho7 := obj_below ho7 hb
          replace ho8 := obj_below ho8 hb
          clear hS hb
          have hS := hS'; clear hS'
          rename World => u
          try simp only [Act.put, List.setIfInBounds_toArray, List.set_cons_zero, List.set_cons_succ]
          refine wpAnyH_ready (rs := [6]) (by kernel_rfl) (by simp) (arm_some (i := 6) 21 #[.agg #[.string m, .slice AO n cO], .int .i64 no] rfl (by rfl) (HWO.out AO cO _ (HT3.out.below hS)) ?_ ?_ AllReadyH.nil)
          · (go_simp; try (with_reducible rfl))
          · intro v6 u' hT
            obtain ⟨A6, c6, rfl, ht6, hb⟩ := hT
            have hS' : (fun u => Below W3.heap.size W3 u) u' := hbt hS hb
            refine ⟨hS', ?_⟩
            replace ho7 := obj_below ho7 hb
            replace ho8 := obj_below ho8 hb
            replace ht3 := ht3.below hb
            clear hS hb
            have hS := hS'; clear hS'
            rename World => u
            try simp only [Act.put, List.setIfInBounds_toArray, List.set_cons_zero, List.set_cons_succ]
            obtain ⟨d0, d1, f0, f1⟩ := obj_cells ho7
            have hr7 := obj_set2 ho7 (.string m) (.slice A3 wn c3)
            have ho9 := obj_set_other ho8 (Ne.symm ne7_8) (.string m) (.slice A3 wn c3)
            have hv3 := vals_store2 ht3 ho7 m A3 wn c3
            have hv6 := vals_store2 ht6 ho7 m A3 wn c3
            have hS4 : Below W3.heap.size W3 _ := below_set2 hS hp7 (.string m) (.slice A3 wn c3)
            refine only (i := 9) rfl (by kernel_rfl) (by rfl) (fun K hK => ?_)
            go_simp
            refine hK.out _ _ hS4 ?_
            clear hK
            try simp only [Act.put, List.setIfInBounds_toArray, List.set_cons_zero, List.set_cons_succ]
            clear d0 d1 f0 f1 hS ho7 ho8 ht3 ht6
            generalize ((u.setCell _ _).setCell _ _) = u4 at *
            obtain ⟨d0, d1, f0, f1⟩ := obj_cells ho9
            have hr8 := obj_set2 ho9 (.string m) (.slice A6 on c6)
            have hr7' := obj_set_other hr7 ne7_8 (.string m) (.slice A6 on c6)
            have hw3 := vals_store2 hv3 ho9 m A6 on c6
            have hw6 := vals_store2 hv6 ho9 m A6 on c6
            have hS5 : Below W3.heap.size W3 _ := below_set2 hS4 hp8 (.string m) (.slice A6 on c6)
            refine only (i := 10) rfl (by kernel_rfl) (by rfl) (fun K hK => ?_)
            go_simp
            refine hK.out _ _ hS5 ?_
            clear hK
            try simp only [Act.put, List.setIfInBounds_toArray, List.set_cons_zero, List.set_cons_succ]
            refine wpAnyH_done (by kernel_rfl) (NoPanic.normal ?_) _
            go_wp2_with fail
            go_meet
            exact ⟨p7, p8, A3, c3, A6, c6, rfl, rfl, hr7', hw3, hr8, hw6, hS5⟩
    · (go_simp; try (with_reducible rfl))
    · intro p8 u' hb ho8 hp8
      replace hp8 := Nat.le_trans (hS.size) hp8
      have hS' : (fun u => Below W3.heap.size W3 u) u' := hbt hS hb
      refine ⟨hS', ?_⟩
      clear hS hb
      have hS := hS'; clear hS'
      rename World => u
      try simp only [Act.put, List.setIfInBounds_toArray, List.set_cons_zero, List.set_cons_succ]
      refine wpAnyH_ready (rs := [3, 7]) (by kernel_rfl) (by simp) (arm_some (i := 3) 20 #[.agg #[.string m, .slice AO n cO], .int .i64 no, .string t] rfl (by rfl) (HWI.out AO cO _ (HT3.out.below hS)) ?_ ?_ (arm_alloc (i := 7) (.cells #[.string ⟨#[]⟩, .slice none 0 0] 27) rfl (by rfl) ?_ ?_ AllReadyH.nil))
      · (go_simp; try (with_reducible rfl))
      · intro v3 u' hT
        obtain ⟨A3, c3, rfl, ht3, hb⟩ := hT
        have hS' : (fun u => Below W3.heap.size W3 u) u' := hbt hS hb
        refine ⟨hS', ?_⟩
        replace ho8 := obj_below ho8 hb
        clear hS hb
        have hS := hS'; clear hS'
        rename World => u
        try simp only [Act.put, List.setIfInBounds_toArray, List.set_cons_zero, List.set_cons_succ]
        refine wpAnyH_ready (rs := [6, 7]) (by kernel_rfl) (by simp) (arm_some (i := 6) 21 #[.agg #[.string m, .slice AO n cO], .int .i64 no] rfl (by rfl) (HWO.out AO cO _ (HT3.out.below hS)) ?_ ?_ (arm_alloc (i := 7) (.cells #[.string ⟨#[]⟩, .slice none 0 0] 27) rfl (by rfl) ?_ ?_ AllReadyH.nil))
        · (go_simp; try (with_reducible rfl))
        · intro v6 u' hT
          obtain ⟨A6, c6, rfl, ht6, hb⟩ := hT
          have hS' : (fun u => Below W3.heap.size W3 u) u' := hbt hS hb
          refine ⟨hS', ?_⟩
          replace ho8 := obj_below ho8 hb
          replace ht3 := ht3.below hb
          clear hS hb
          have hS := hS'; clear hS'
          rename World => u
          try simp only [Act.put, List.setIfInBounds_toArray, List.set_cons_zero, List.set_cons_succ]
          refine wpAnyH_ready (rs := [7]) (by kernel_rfl) (by simp) (arm_alloc (i := 7) (.cells #[.string ⟨#[]⟩, .slice none 0 0] 27) rfl (by rfl) ?_ ?_ AllReadyH.nil)
          · (go_simp; try (with_reducible rfl))
          · intro p7 u' hb ho7 hp7
            have ne7_8 : p7 ≠ p8 := by have := obj_lt ho8; omega
            replace hp7 := Nat.le_trans (hS.size) hp7
            have hS' : (fun u => Below W3.heap.size W3 u) u' := hbt hS hb
            refine ⟨hS', ?_⟩
            replace ho8 := obj_below ho8 hb
            replace ht3 := ht3.below hb
            replace ht6 := ht6.below hb
            clear hS hb
            have hS := hS'; clear hS'
            rename World => u
            try simp only [Act.put, List.setIfInBounds_toArray, List.set_cons_zero, List.set_cons_succ]
            obtain ⟨d0, d1, f0, f1⟩ := obj_cells ho7
            have hr7 := obj_set2 ho7 (.string m) (.slice A3 wn c3)
            have ho9 := obj_set_other ho8 (Ne.symm ne7_8) (.string m) (.slice A3 wn c3)
            have hv3 := vals_store2 ht3 ho7 m A3 wn c3
            have hv6 := vals_store2 ht6 ho7 m A3 wn c3
            have hS4 : Below W3.heap.size W3 _ := below_set2 hS hp7 (.string m) (.slice A3 wn c3)
            refine only (i := 9) rfl (by kernel_rfl) (by rfl) (fun K hK => ?_)
            go_simp
            refine hK.out _ _ hS4 ?_
            clear hK
            try simp only [Act.put, List.setIfInBounds_toArray, List.set_cons_zero, List.set_cons_succ]
            clear d0 d1 f0 f1 hS ho7 ho8 ht3 ht6
            generalize ((u.setCell _ _).setCell _ _) = u4 at *
            obtain ⟨d0, d1, f0, f1⟩ := obj_cells ho9
            have hr8 := obj_set2 ho9 (.string m) (.slice A6 on c6)
            have hr7' := obj_set_other hr7 ne7_8 (.string m) (.slice A6 on c6)
            have hw3 := vals_store2 hv3 ho9 m A6 on c6
            have hw6 := vals_store2 hv6 ho9 m A6 on c6
            have hS5 : Below W3.heap.size W3 _ := below_set2 hS4 hp8 (.string m) (.slice A6 on c6)
            refine only (i := 10) rfl (by kernel_rfl) (by rfl) (fun K hK => ?_)
            go_simp
            refine hK.out _ _ hS5 ?_
            clear hK
            try simp only [Act.put, List.setIfInBounds_toArray, List.set_cons_zero, List.set_cons_succ]
            refine wpAnyH_done (by kernel_rfl) (NoPanic.normal ?_) _
            go_wp2_with fail
            go_meet
            exact ⟨p7, p8, A3, c3, A6, c6, rfl, rfl, hr7', hw3, hr8, hw6, hS5⟩
        · (go_simp; try (with_reducible rfl))
        · intro p7 u' hb ho7 hp7
          have ne7_8 : p7 ≠ p8 := by have := obj_lt ho8; omega
          replace hp7 := Nat.le_trans (hS.size) hp7
          have hS' : (fun u => Below W3.heap.size W3 u) u' := hbt hS hb
          refine ⟨hS', ?_⟩
          replace ho8 := obj_below ho8 hb
          replace ht3 := ht3.below hb
          clear hS hb
          have hS := hS'; clear hS'
          rename World => u
          try simp only [Act.put, List.setIfInBounds_toArray, List.set_cons_zero, List.set_cons_succ]
          refine wpAnyH_ready (rs := [6]) (by kernel_rfl) (by simp) (arm_some (i := 6) 21 #[.agg #[.string m, .slice AO n cO], .int .i64 no] rfl (by rfl) (HWO.out AO cO _ (HT3.out.below hS)) ?_ ?_ AllReadyH.nil)
          · (go_simp; try (with_reducible rfl))
          · intro v6 u' hT
            obtain ⟨A6, c6, rfl, ht6, hb⟩ := hT
            have hS' : (fun u => Below W3.heap.size W3 u) u' := hbt hS hb
            refine ⟨hS', ?_⟩
            replace ho8 := obj_below ho8 hb
            replace ho7 := obj_below ho7 hb
            replace ht3 := ht3.below hb
            clear hS hb
            have hS := hS'; clear hS'
            rename World => u
            try simp only [Act.put, List.setIfInBounds_toArray, List.set_cons_zero, List.set_cons_succ]
            obtain ⟨d0, d1, f0, f1⟩ := obj_cells ho7
            have hr7 := obj_set2 ho7 (.string m) (.slice A3 wn c3)
            have ho9 := obj_set_other ho8 (Ne.symm ne7_8) (.string m) (.slice A3 wn c3)
            have hv3 := vals_store2 ht3 ho7 m A3 wn c3
            have hv6 := vals_store2 ht6 ho7 m A3 wn c3
            have hS4 : Below W3.heap.size W3 _ := below_set2 hS hp7 (.string m) (.slice A3 wn c3)
            refine only (i := 9) rfl (by kernel_rfl) (by rfl) (fun K hK => ?_)
            go_simp
            refine hK.out _ _ hS4 ?_
            clear hK
            try simp only [Act.put, List.setIfInBounds_toArray, List.set_cons_zero, List.set_cons_succ]
            clear d0 d1 f0 f1 hS ho7 ho8 ht3 ht6
            generalize ((u.setCell _ _).setCell _ _) = u4 at *
            obtain ⟨d0, d1, f0, f1⟩ := obj_cells ho9
            have hr8 := obj_set2 ho9 (.string m) (.slice A6 on c6)
            have hr7' := obj_set_other hr7 ne7_8 (.string m) (.slice A6 on c6)
            have hw3 := vals_store2 hv3 ho9 m A6 on c6
            have hw6 := vals_store2 hv6 ho9 m A6 on c6
            have hS5 : Below W3.heap.size W3 _ := below_set2 hS4 hp8 (.string m) (.slice A6 on c6)
            refine only (i := 10) rfl (by kernel_rfl) (by rfl) (fun K hK => ?_)
            go_simp
            refine hK.out _ _ hS5 ?_
            clear hK
            try simp only [Act.put, List.setIfInBounds_toArray, List.set_cons_zero, List.set_cons_succ]
            refine wpAnyH_done (by kernel_rfl) (NoPanic.normal ?_) _
            go_wp2_with fail
            go_meet
            exact ⟨p7, p8, A3, c3, A6, c6, rfl, rfl, hr7', hw3, hr8, hw6, hS5⟩
      · (go_simp; try (with_reducible rfl))
      · intro p7 u' hb ho7 hp7
        have ne7_8 : p7 ≠ p8 := by have := obj_lt ho8; omega
        replace hp7 := Nat.le_trans (hS.size) hp7
        have hS' : (fun u => Below W3.heap.size W3 u) u' := hbt hS hb
        refine ⟨hS', ?_⟩
        replace ho8 := obj_below ho8 hb
        clear hS hb
        have hS := hS'; clear hS'
        rename World => u
        try simp only [Act.put, List.setIfInBounds_toArray, List.set_cons_zero, List.set_cons_succ]
        refine wpAnyH_ready (rs := [3]) (by kernel_rfl) (by simp) (arm_some (i := 3) 20 #[.agg #[.string m, .slice AO n cO], .int .i64 no, .string t] rfl (by rfl) (HWI.out AO cO _ (HT3.out.below hS)) ?_ ?_ AllReadyH.nil)
        · (go_simp; try (with_reducible rfl))
        · intro v3 u' hT
          obtain ⟨A3, c3, rfl, ht3, hb⟩ := hT
          have hS' : (fun u => Below W3.heap.size W3 u) u' := hbt hS hb
          refine ⟨hS', ?_⟩
          replace ho8 := obj_below ho8 hb
          replace ho7 := obj_below ho7 hb
          clear hS hb
          have hS := hS'; clear hS'
          rename World => u
          try simp only [Act.put, List.setIfInBounds_toArray, List.set_cons_zero, List.set_cons_succ]
          refine wpAnyH_ready (rs := [6]) (by kernel_rfl) (by simp) (arm_some (i := 6) 21 #[.agg #[.string m, .slice AO n cO], .int .i64 no] rfl (by rfl) (HWO.out AO cO _ (HT3.out.below hS)) ?_ ?_ AllReadyH.nil)
          · (go_simp; try (with_reducible rfl))
          · intro v6 u' hT
            obtain ⟨A6, c6, rfl, ht6, hb⟩ := hT
            have hS' : (fun u => Below W3.heap.size W3 u) u' := hbt hS hb
            refine ⟨hS', ?_⟩
            replace ho8 := obj_below ho8 hb
            replace ho7 := obj_below ho7 hb
            replace ht3 := ht3.below hb
            clear hS hb
            have hS := hS'; clear hS'
            rename World => u
            try simp only [Act.put, List.setIfInBounds_toArray, List.set_cons_zero, List.set_cons_succ]
            obtain ⟨d0, d1, f0, f1⟩ := obj_cells ho7
            have hr7 := obj_set2 ho7 (.string m) (.slice A3 wn c3)
            have ho9 := obj_set_other ho8 (Ne.symm ne7_8) (.string m) (.slice A3 wn c3)
            have hv3 := vals_store2 ht3 ho7 m A3 wn c3
            have hv6 := vals_store2 ht6 ho7 m A3 wn c3
            have hS4 : Below W3.heap.size W3 _ := below_set2 hS hp7 (.string m) (.slice A3 wn c3)
            refine only (i := 9) rfl (by kernel_rfl) (by rfl) (fun K hK => ?_)
            go_simp
            refine hK.out _ _ hS4 ?_
            clear hK
            try simp only [Act.put, List.setIfInBounds_toArray, List.set_cons_zero, List.set_cons_succ]
            clear d0 d1 f0 f1 hS ho7 ho8 ht3 ht6
            generalize ((u.setCell _ _).setCell _ _) = u4 at *
            obtain ⟨d0, d1, f0, f1⟩ := obj_cells ho9
            have hr8 := obj_set2 ho9 (.string m) (.slice A6 on c6)
            have hr7' := obj_set_other hr7 ne7_8 (.string m) (.slice A6 on c6)
            have hw3 := vals_store2 hv3 ho9 m A6 on c6
            have hw6 := vals_store2 hv6 ho9 m A6 on c6
            have hS5 : Below W3.heap.size W3 _ := below_set2 hS4 hp8 (.string m) (.slice A6 on c6)
            refine only (i := 10) rfl (by kernel_rfl) (by rfl) (fun K hK => ?_)
            go_simp
            refine hK.out _ _ hS5 ?_
            clear hK
            try simp only [Act.put, List.setIfInBounds_toArray, List.set_cons_zero, List.set_cons_succ]
            refine wpAnyH_done (by kernel_rfl) (NoPanic.normal ?_) _
            go_wp2_with fail
            go_meet
            exact ⟨p7, p8, A3, c3, A6, c6, rfl, rfl, hr7', hw3, hr8, hw6, hS5⟩
  case rest =>
    obtain ⟨p, q, A4, c4, A5, c5, rfl, rfl, hx4, ht4, hx5, ht5, hb4⟩ := hcut
    have HB4 := Lib.hid (hbt HB3.out hb4)
    have HL4 := Lib.hid (HL3.out.below hb4)
    have HX4 := Lib.hid (HX3.out.below hb4)
    have HT4 := Lib.hid (HT3.out.below hb4)
    have HO4 := Lib.hid (HO3.out.below hb4)
    have HP4 := Lib.hid hx4
    have HQ4 := Lib.hid hx5
    have HU4 := Lib.hid ht4
    have HV4 := Lib.hid ht5
    obtain ⟨b0, b1, _, _⟩ := obj_cells hx4
    clear hx4 ht4 hx5 ht5 hb4 HL3 HX3 HT3 HO3
    go_wp2_with fail
    refine (HF1.out _ _ _ HU4.out).mono ?_
    rintro e w5 ⟨rfl, hb5⟩
    have HB5 := Lib.hid (hbt HB4.out hb5)
    have HL5 := Lib.hid (HL4.out.below hb5)
    have HX5 := Lib.hid (HX4.out.below hb5)
    have HT5 := Lib.hid (HT4.out.below hb5)
    have HO5 := Lib.hid (HO4.out.below hb5)
    have HP5 := Lib.hid (HP4.out.below hb5)
    have HQ5 := Lib.hid (HQ4.out.below hb5)
    have HU5 := Lib.hid (HU4.out.below hb5)
    have HV5 := Lib.hid (HV4.out.below hb5)
    clear hb5 b0 b1 HL4 HX4 HT4 HO4 HP4 HQ4 HU4 HV4
    obtain ⟨b0, b1, _, _⟩ := obj_cells HQ5.out
    go_wp2_with fail
    refine (HF2.out _ _ _ HV5.out).mono ?_
    rintro e x6 ⟨rfl, hb6⟩
    have HB6 := Lib.hid (hbt HB5.out hb6)
    have HL6 := Lib.hid (HL5.out.below hb6)
    have HX6 := Lib.hid (HX5.out.below hb6)
    have HT6 := Lib.hid (HT5.out.below hb6)
    have HO6 := Lib.hid (HO5.out.below hb6)
    have HP6 := Lib.hid (HP5.out.below hb6)
    have HQ6 := Lib.hid (HQ5.out.below hb6)
    have HU6 := Lib.hid (HU5.out.below hb6)
    have HV6 := Lib.hid (HV5.out.below hb6)
    clear hb6 b0 b1 HL5 HX5 HT5 HO5 HP5 HQ5 HU5 HV5
    go_wp2_with fail
    refine wp_region_noPanic ?_
    refine wp_region_held_drew (S := (fun u => Below x6.heap.size x6 u)) (by kernel_rfl) ((Below.refl _ _).drew) (fun hS => ?_)
    refine give_val (i := 0) (v := ?_) rfl (by kernel_rfl) (by kernel_rfl) (by kernel_rfl) (fun _ _ _ h => h) (by rfl) (fun u hu => ?_) hS ?_
    rotate_left
    · ((have h1 := HX6.out.below hu; have h2 := HO6.out.below hu; have h3 := HP6.out.below hu; have h4 := HQ6.out.below hu; obtain ⟨b0, b1, _, _⟩ := obj_cells h1; obtain ⟨b2, b3, _, _⟩ := obj_cells h2; obtain ⟨b4, b5, _, _⟩ := obj_cells h3; obtain ⟨b6, b7, _, _⟩ := obj_cells h4; clear h1 h2 h3 h4); go_simp; try (with_reducible rfl))
    try simp only [Act.put, List.setIfInBounds_toArray, List.set_cons_zero, List.set_cons_succ]
    refine give_val (i := 1) (v := ?_) rfl (by kernel_rfl) (by kernel_rfl) (by kernel_rfl) (fun _ _ _ h => h) (by rfl) (fun u hu => ?_) hS ?_
    rotate_left
    · ((have h1 := HX6.out.below hu; have h2 := HO6.out.below hu; have h3 := HP6.out.below hu; have h4 := HQ6.out.below hu; obtain ⟨b0, b1, _, _⟩ := obj_cells h1; obtain ⟨b2, b3, _, _⟩ := obj_cells h2; obtain ⟨b4, b5, _, _⟩ := obj_cells h3; obtain ⟨b6, b7, _, _⟩ := obj_cells h4; clear h1 h2 h3 h4); go_simp; try (with_reducible rfl))
    try simp only [Act.put, List.setIfInBounds_toArray, List.set_cons_zero, List.set_cons_succ]
    refine give_val (i := 2) (v := ?_) rfl (by kernel_rfl) (by kernel_rfl) (by kernel_rfl) (fun _ _ _ h => h) (by rfl) (fun u hu => ?_) hS ?_
    rotate_left
    · ((have h1 := HX6.out.below hu; have h2 := HO6.out.below hu; have h3 := HP6.out.below hu; have h4 := HQ6.out.below hu; obtain ⟨b0, b1, _, _⟩ := obj_cells h1; obtain ⟨b2, b3, _, _⟩ := obj_cells h2; obtain ⟨b4, b5, _, _⟩ := obj_cells h3; obtain ⟨b6, b7, _, _⟩ := obj_cells h4; clear h1 h2 h3 h4); go_simp; try (with_reducible rfl))
    try simp only [Act.put, List.setIfInBounds_toArray, List.set_cons_zero, List.set_cons_succ]
    refine give_val (i := 3) (v := ?_) rfl (by kernel_rfl) (by kernel_rfl) (by kernel_rfl) (fun _ _ _ h => h) (by rfl) (fun u hu => ?_) hS ?_
    rotate_left
    · ((have h1 := HX6.out.below hu; have h2 := HO6.out.below hu; have h3 := HP6.out.below hu; have h4 := HQ6.out.below hu; obtain ⟨b0, b1, _, _⟩ := obj_cells h1; obtain ⟨b2, b3, _, _⟩ := obj_cells h2; obtain ⟨b4, b5, _, _⟩ := obj_cells h3; obtain ⟨b6, b7, _, _⟩ := obj_cells h4; clear h1 h2 h3 h4); go_simp; try (with_reducible rfl))
    try simp only [Act.put, List.setIfInBounds_toArray, List.set_cons_zero, List.set_cons_succ]
    refine only_some (i := 4) 23 #[.agg #[.string m, .slice A n ca], .int .i64 no, .string t] rfl (by kernel_rfl) (by rfl) ((HRI.out _ (HL6.out.below hS))) ?_ ?_
    · (go_simp; try (with_reducible rfl))
    intro v4 w4 hT
    obtain ⟨E4, d4, rfl, hu4, hb4⟩ := hT
    have hS' := hbt hS hb4
    refine ⟨hS', ?_⟩
    clear hS
    have hS := hS'; clear hS'
    try simp only [Act.put, List.setIfInBounds_toArray, List.set_cons_zero, List.set_cons_succ]
    refine only_call (i := 5) 22 #[.agg #[.string m, .slice A4 wn c4], .agg #[.string m, .slice E4 wn d4]] rfl (by kernel_rfl) (by rfl) ((HE1.out A4 c4 E4 d4 _ (HU6.out.below hS) hu4).mono fun e w' he => ⟨he.1, hbt hS he.2⟩) ?_ ?_
    · (go_simp; try (with_reducible rfl))
    clear hS
    intro w5 hS
    try simp only [Act.put, List.setIfInBounds_toArray, List.set_cons_zero, List.set_cons_succ]
    refine give_val (i := 6) (v := ?_) rfl (by kernel_rfl) (by kernel_rfl) (by kernel_rfl) (fun _ _ _ h => h) (by rfl) (fun u hu => ?_) hS ?_
    rotate_left
    · ((have h1 := HX6.out.below hu; have h2 := HO6.out.below hu; have h3 := HP6.out.below hu; have h4 := HQ6.out.below hu; obtain ⟨b0, b1, _, _⟩ := obj_cells h1; obtain ⟨b2, b3, _, _⟩ := obj_cells h2; obtain ⟨b4, b5, _, _⟩ := obj_cells h3; obtain ⟨b6, b7, _, _⟩ := obj_cells h4; clear h1 h2 h3 h4); go_simp; try (with_reducible rfl))
    try simp only [Act.put, List.setIfInBounds_toArray, List.set_cons_zero, List.set_cons_succ]
    refine give_val (i := 7) (v := ?_) rfl (by kernel_rfl) (by kernel_rfl) (by kernel_rfl) (fun _ _ _ h => h) (by rfl) (fun u hu => ?_) hS ?_
    rotate_left
    · ((have h1 := HX6.out.below hu; have h2 := HO6.out.below hu; have h3 := HP6.out.below hu; have h4 := HQ6.out.below hu; obtain ⟨b0, b1, _, _⟩ := obj_cells h1; obtain ⟨b2, b3, _, _⟩ := obj_cells h2; obtain ⟨b4, b5, _, _⟩ := obj_cells h3; obtain ⟨b6, b7, _, _⟩ := obj_cells h4; clear h1 h2 h3 h4); go_simp; try (with_reducible rfl))
    try simp only [Act.put, List.setIfInBounds_toArray, List.set_cons_zero, List.set_cons_succ]
    refine give_val (i := 8) (v := ?_) rfl (by kernel_rfl) (by kernel_rfl) (by kernel_rfl) (fun _ _ _ h => h) (by rfl) (fun u hu => ?_) hS ?_
    rotate_left
    · ((have h1 := HX6.out.below hu; have h2 := HO6.out.below hu; have h3 := HP6.out.below hu; have h4 := HQ6.out.below hu; obtain ⟨b0, b1, _, _⟩ := obj_cells h1; obtain ⟨b2, b3, _, _⟩ := obj_cells h2; obtain ⟨b4, b5, _, _⟩ := obj_cells h3; obtain ⟨b6, b7, _, _⟩ := obj_cells h4; clear h1 h2 h3 h4); go_simp; try (with_reducible rfl))
    try simp only [Act.put, List.setIfInBounds_toArray, List.set_cons_zero, List.set_cons_succ]
    refine give_val (i := 9) (v := ?_) rfl (by kernel_rfl) (by kernel_rfl) (by kernel_rfl) (fun _ _ _ h => h) (by rfl) (fun u hu => ?_) hS ?_
    rotate_left
    · ((have h1 := HX6.out.below hu; have h2 := HO6.out.below hu; have h3 := HP6.out.below hu; have h4 := HQ6.out.below hu; obtain ⟨b0, b1, _, _⟩ := obj_cells h1; obtain ⟨b2, b3, _, _⟩ := obj_cells h2; obtain ⟨b4, b5, _, _⟩ := obj_cells h3; obtain ⟨b6, b7, _, _⟩ := obj_cells h4; clear h1 h2 h3 h4); go_simp; try (with_reducible rfl))
    try simp only [Act.put, List.setIfInBounds_toArray, List.set_cons_zero, List.set_cons_succ]
    refine only_some (i := 10) 24 #[.agg #[.string m, .slice A n ca], .int .i64 no] rfl (by kernel_rfl) (by rfl) ((HRO.out _ (HL6.out.below hS))) ?_ ?_
    · (go_simp; try (with_reducible rfl))
    intro v10 w10 hT
    obtain ⟨E10, d10, rfl, hu10, hb10⟩ := hT
    have hS' := hbt hS hb10
    refine ⟨hS', ?_⟩
    clear hS
    have hS := hS'; clear hS'
    try simp only [Act.put, List.setIfInBounds_toArray, List.set_cons_zero, List.set_cons_succ]
    refine only_call (i := 11) 22 #[.agg #[.string m, .slice A5 on c5], .agg #[.string m, .slice E10 on d10]] rfl (by kernel_rfl) (by rfl) ((HE2.out A5 c5 E10 d10 _ (HV6.out.below hS) hu10).mono fun e w' he => ⟨he.1, hbt hS he.2⟩) ?_ ?_
    · (go_simp; try (with_reducible rfl))
    clear hS
    intro w11 hS
    try simp only [Act.put, List.setIfInBounds_toArray, List.set_cons_zero, List.set_cons_succ]
    refine give_val (i := 12) (v := ?_) rfl (by kernel_rfl) (by kernel_rfl) (by kernel_rfl) (fun _ _ _ h => h) (by rfl) (fun u hu => ?_) hS ?_
    rotate_left
    · ((have h1 := HX6.out.below hu; have h2 := HO6.out.below hu; have h3 := HP6.out.below hu; have h4 := HQ6.out.below hu; obtain ⟨b0, b1, _, _⟩ := obj_cells h1; obtain ⟨b2, b3, _, _⟩ := obj_cells h2; obtain ⟨b4, b5, _, _⟩ := obj_cells h3; obtain ⟨b6, b7, _, _⟩ := obj_cells h4; clear h1 h2 h3 h4); go_simp; try (with_reducible rfl))
    try simp only [Act.put, List.setIfInBounds_toArray, List.set_cons_zero, List.set_cons_succ]
    refine give_val (i := 13) (v := ?_) rfl (by kernel_rfl) (by kernel_rfl) (by kernel_rfl) (fun _ _ _ h => h) (by rfl) (fun u hu => ?_) hS ?_
    rotate_left
    · ((have h1 := HX6.out.below hu; have h2 := HO6.out.below hu; have h3 := HP6.out.below hu; have h4 := HQ6.out.below hu; obtain ⟨b0, b1, _, _⟩ := obj_cells h1; obtain ⟨b2, b3, _, _⟩ := obj_cells h2; obtain ⟨b4, b5, _, _⟩ := obj_cells h3; obtain ⟨b6, b7, _, _⟩ := obj_cells h4; clear h1 h2 h3 h4); go_simp; try (with_reducible rfl))
    try simp only [Act.put, List.setIfInBounds_toArray, List.set_cons_zero, List.set_cons_succ]
    refine give_val (i := 14) (v := ?_) rfl (by kernel_rfl) (by kernel_rfl) (by kernel_rfl) (fun _ _ _ h => h) (by rfl) (fun u hu => ?_) hS ?_
    rotate_left
    · ((have h1 := HX6.out.below hu; have h2 := HO6.out.below hu; have h3 := HP6.out.below hu; have h4 := HQ6.out.below hu; obtain ⟨b0, b1, _, _⟩ := obj_cells h1; obtain ⟨b2, b3, _, _⟩ := obj_cells h2; obtain ⟨b4, b5, _, _⟩ := obj_cells h3; obtain ⟨b6, b7, _, _⟩ := obj_cells h4; clear h1 h2 h3 h4); go_simp; try (with_reducible rfl))
    try simp only [Act.put, List.setIfInBounds_toArray, List.set_cons_zero, List.set_cons_succ]
    refine give_val (i := 15) (v := ?_) rfl (by kernel_rfl) (by kernel_rfl) (by kernel_rfl) (fun _ _ _ h => h) (by rfl) (fun u hu => ?_) hS ?_
    rotate_left
    · ((have h1 := HX6.out.below hu; have h2 := HO6.out.below hu; have h3 := HP6.out.below hu; have h4 := HQ6.out.below hu; obtain ⟨b0, b1, _, _⟩ := obj_cells h1; obtain ⟨b2, b3, _, _⟩ := obj_cells h2; obtain ⟨b4, b5, _, _⟩ := obj_cells h3; obtain ⟨b6, b7, _, _⟩ := obj_cells h4; clear h1 h2 h3 h4); go_simp; try (with_reducible rfl))
    try simp only [Act.put, List.setIfInBounds_toArray, List.set_cons_zero, List.set_cons_succ]
    refine give_val (i := 16) (v := (.bool true)) rfl (by kernel_rfl) (by kernel_rfl) (by kernel_rfl) (fun _ _ _ h => h) (by rfl) (fun u hu => ?_) hS ?_
    · ((have h1 := HX6.out.below hu; have h2 := HO6.out.below hu; have h3 := HP6.out.below hu; have h4 := HQ6.out.below hu; obtain ⟨b0, b1, _, _⟩ := obj_cells h1; obtain ⟨b2, b3, _, _⟩ := obj_cells h2; obtain ⟨b4, b5, _, _⟩ := obj_cells h3; obtain ⟨b6, b7, _, _⟩ := obj_cells h4; clear h1 h2 h3 h4); go_simp; (try simp))
    try simp only [Act.put, List.setIfInBounds_toArray, List.set_cons_zero, List.set_cons_succ]
    refine give_val (i := 17) (v := ?_) rfl (by kernel_rfl) (by kernel_rfl) (by kernel_rfl) (fun _ _ _ h => h) (by rfl) (fun u hu => ?_) hS ?_
    rotate_left
    · ((have h1 := HX6.out.below hu; have h2 := HO6.out.below hu; have h3 := HP6.out.below hu; have h4 := HQ6.out.below hu; obtain ⟨b0, b1, _, _⟩ := obj_cells h1; obtain ⟨b2, b3, _, _⟩ := obj_cells h2; obtain ⟨b4, b5, _, _⟩ := obj_cells h3; obtain ⟨b6, b7, _, _⟩ := obj_cells h4; clear h1 h2 h3 h4); go_simp; try (with_reducible rfl))
    try simp only [Act.put, List.setIfInBounds_toArray, List.set_cons_zero, List.set_cons_succ]
    refine give_val (i := 18) (v := ?_) rfl (by kernel_rfl) (by kernel_rfl) (by kernel_rfl) (fun _ _ _ h => h) (by rfl) (fun u hu => ?_) hS ?_
    rotate_left
    · ((have h1 := HX6.out.below hu; have h2 := HO6.out.below hu; have h3 := HP6.out.below hu; have h4 := HQ6.out.below hu; obtain ⟨b0, b1, _, _⟩ := obj_cells h1; obtain ⟨b2, b3, _, _⟩ := obj_cells h2; obtain ⟨b4, b5, _, _⟩ := obj_cells h3; obtain ⟨b6, b7, _, _⟩ := obj_cells h4; clear h1 h2 h3 h4); go_simp; try (with_reducible rfl))
    try simp only [Act.put, List.setIfInBounds_toArray, List.set_cons_zero, List.set_cons_succ]
    refine give_val (i := 19) (v := ?_) rfl (by kernel_rfl) (by kernel_rfl) (by kernel_rfl) (fun _ _ _ h => h) (by rfl) (fun u hu => ?_) hS ?_
    rotate_left
    · ((have h1 := HX6.out.below hu; have h2 := HO6.out.below hu; have h3 := HP6.out.below hu; have h4 := HQ6.out.below hu; obtain ⟨b0, b1, _, _⟩ := obj_cells h1; obtain ⟨b2, b3, _, _⟩ := obj_cells h2; obtain ⟨b4, b5, _, _⟩ := obj_cells h3; obtain ⟨b6, b7, _, _⟩ := obj_cells h4; clear h1 h2 h3 h4); go_simp; try (with_reducible rfl))
    try simp only [Act.put, List.setIfInBounds_toArray, List.set_cons_zero, List.set_cons_succ]
    refine give_val (i := 20) (v := ?_) rfl (by kernel_rfl) (by kernel_rfl) (by kernel_rfl) (fun _ _ _ h => h) (by rfl) (fun u hu => ?_) hS ?_
    rotate_left
    · ((have h1 := HX6.out.below hu; have h2 := HO6.out.below hu; have h3 := HP6.out.below hu; have h4 := HQ6.out.below hu; obtain ⟨b0, b1, _, _⟩ := obj_cells h1; obtain ⟨b2, b3, _, _⟩ := obj_cells h2; obtain ⟨b4, b5, _, _⟩ := obj_cells h3; obtain ⟨b6, b7, _, _⟩ := obj_cells h4; clear h1 h2 h3 h4); go_simp; try (with_reducible rfl))
    try simp only [Act.put, List.setIfInBounds_toArray, List.set_cons_zero, List.set_cons_succ]
    refine give_val (i := 21) (v := ?_) rfl (by kernel_rfl) (by kernel_rfl) (by kernel_rfl) (fun _ _ _ h => h) (by rfl) (fun u hu => ?_) hS ?_
    rotate_left
    · ((have h1 := HX6.out.below hu; have h2 := HO6.out.below hu; have h3 := HP6.out.below hu; have h4 := HQ6.out.below hu; obtain ⟨b0, b1, _, _⟩ := obj_cells h1; obtain ⟨b2, b3, _, _⟩ := obj_cells h2; obtain ⟨b4, b5, _, _⟩ := obj_cells h3; obtain ⟨b6, b7, _, _⟩ := obj_cells h4; clear h1 h2 h3 h4); go_simp; try (with_reducible rfl))
    try simp only [Act.put, List.setIfInBounds_toArray, List.set_cons_zero, List.set_cons_succ]
    refine give_val (i := 22) (v := ?_) rfl (by kernel_rfl) (by kernel_rfl) (by kernel_rfl) (fun _ _ _ h => h) (by rfl) (fun u hu => ?_) hS ?_
    rotate_left
    · ((have h1 := HX6.out.below hu; have h2 := HO6.out.below hu; have h3 := HP6.out.below hu; have h4 := HQ6.out.below hu; obtain ⟨b0, b1, _, _⟩ := obj_cells h1; obtain ⟨b2, b3, _, _⟩ := obj_cells h2; obtain ⟨b4, b5, _, _⟩ := obj_cells h3; obtain ⟨b6, b7, _, _⟩ := obj_cells h4; clear h1 h2 h3 h4); go_simp; try (with_reducible rfl))
    try simp only [Act.put, List.setIfInBounds_toArray, List.set_cons_zero, List.set_cons_succ]
    refine give_val (i := 23) (v := ?_) rfl (by kernel_rfl) (by kernel_rfl) (by kernel_rfl) (fun _ _ _ h => h) (by rfl) (fun u hu => ?_) hS ?_
    rotate_left
    · ((have h1 := HX6.out.below hu; have h2 := HO6.out.below hu; have h3 := HP6.out.below hu; have h4 := HQ6.out.below hu; obtain ⟨b0, b1, _, _⟩ := obj_cells h1; obtain ⟨b2, b3, _, _⟩ := obj_cells h2; obtain ⟨b4, b5, _, _⟩ := obj_cells h3; obtain ⟨b6, b7, _, _⟩ := obj_cells h4; clear h1 h2 h3 h4); go_simp; try (with_reducible rfl))
    try simp only [Act.put, List.setIfInBounds_toArray, List.set_cons_zero, List.set_cons_succ]
    refine give_val (i := 24) (v := ?_) rfl (by kernel_rfl) (by kernel_rfl) (by kernel_rfl) (fun _ _ _ h => h) (by rfl) (fun u hu => ?_) hS ?_
    rotate_left
    · ((have h1 := HX6.out.below hu; have h2 := HO6.out.below hu; have h3 := HP6.out.below hu; have h4 := HQ6.out.below hu; obtain ⟨b0, b1, _, _⟩ := obj_cells h1; obtain ⟨b2, b3, _, _⟩ := obj_cells h2; obtain ⟨b4, b5, _, _⟩ := obj_cells h3; obtain ⟨b6, b7, _, _⟩ := obj_cells h4; clear h1 h2 h3 h4); go_simp; try (with_reducible rfl))
    try simp only [Act.put, List.setIfInBounds_toArray, List.set_cons_zero, List.set_cons_succ]
    refine give_val (i := 25) (v := ?_) rfl (by kernel_rfl) (by kernel_rfl) (by kernel_rfl) (fun _ _ _ h => h) (by rfl) (fun u hu => ?_) hS ?_
    rotate_left
    · ((have h1 := HX6.out.below hu; have h2 := HO6.out.below hu; have h3 := HP6.out.below hu; have h4 := HQ6.out.below hu; obtain ⟨b0, b1, _, _⟩ := obj_cells h1; obtain ⟨b2, b3, _, _⟩ := obj_cells h2; obtain ⟨b4, b5, _, _⟩ := obj_cells h3; obtain ⟨b6, b7, _, _⟩ := obj_cells h4; clear h1 h2 h3 h4); go_simp; try (with_reducible rfl))
    try simp only [Act.put, List.setIfInBounds_toArray, List.set_cons_zero, List.set_cons_succ]
    refine give_val (i := 26) (v := ?_) rfl (by kernel_rfl) (by kernel_rfl) (by kernel_rfl) (fun _ _ _ h => h) (by rfl) (fun u hu => ?_) hS ?_
    rotate_left
    · ((have h1 := HX6.out.below hu; have h2 := HO6.out.below hu; have h3 := HP6.out.below hu; have h4 := HQ6.out.below hu; obtain ⟨b0, b1, _, _⟩ := obj_cells h1; obtain ⟨b2, b3, _, _⟩ := obj_cells h2; obtain ⟨b4, b5, _, _⟩ := obj_cells h3; obtain ⟨b6, b7, _, _⟩ := obj_cells h4; clear h1 h2 h3 h4); go_simp; try (with_reducible rfl))
    try simp only [Act.put, List.setIfInBounds_toArray, List.set_cons_zero, List.set_cons_succ]
    refine give_val (i := 27) (v := ?_) rfl (by kernel_rfl) (by kernel_rfl) (by kernel_rfl) (fun _ _ _ h => h) (by rfl) (fun u hu => ?_) hS ?_
    rotate_left
    · ((have h1 := HX6.out.below hu; have h2 := HO6.out.below hu; have h3 := HP6.out.below hu; have h4 := HQ6.out.below hu; obtain ⟨b0, b1, _, _⟩ := obj_cells h1; obtain ⟨b2, b3, _, _⟩ := obj_cells h2; obtain ⟨b4, b5, _, _⟩ := obj_cells h3; obtain ⟨b6, b7, _, _⟩ := obj_cells h4; clear h1 h2 h3 h4); go_simp; try (with_reducible rfl))
    try simp only [Act.put, List.setIfInBounds_toArray, List.set_cons_zero, List.set_cons_succ]
    refine only_call (i := 28) 22 #[.agg #[.string m, .slice AO n cO], .agg #[.string m, .slice A n ca]] rfl (by kernel_rfl) (by rfl) ((HE3.out AO cO _ (HT6.out.below hS) (HL6.out.below hS)).mono fun e w' he => ⟨he.1, hbt hS he.2⟩) ?_ ?_
    · (go_simp; try (with_reducible rfl))
    clear hS
    intro w28 hS
    try simp only [Act.put, List.setIfInBounds_toArray, List.set_cons_zero, List.set_cons_succ]
    refine give_val (i := 29) (v := ?_) rfl (by kernel_rfl) (by kernel_rfl) (by kernel_rfl) (fun _ _ _ h => h) (by rfl) (fun u hu => ?_) hS ?_
    rotate_left
    · ((have h1 := HX6.out.below hu; have h2 := HO6.out.below hu; have h3 := HP6.out.below hu; have h4 := HQ6.out.below hu; obtain ⟨b0, b1, _, _⟩ := obj_cells h1; obtain ⟨b2, b3, _, _⟩ := obj_cells h2; obtain ⟨b4, b5, _, _⟩ := obj_cells h3; obtain ⟨b6, b7, _, _⟩ := obj_cells h4; clear h1 h2 h3 h4); go_simp; try (with_reducible rfl))
    try simp only [Act.put, List.setIfInBounds_toArray, List.set_cons_zero, List.set_cons_succ]
    refine give_val (i := 30) (v := ?_) rfl (by kernel_rfl) (by kernel_rfl) (by kernel_rfl) (fun _ _ _ h => h) (by rfl) (fun u hu => ?_) hS ?_
    rotate_left
    · ((have h1 := HX6.out.below hu; have h2 := HO6.out.below hu; have h3 := HP6.out.below hu; have h4 := HQ6.out.below hu; obtain ⟨b0, b1, _, _⟩ := obj_cells h1; obtain ⟨b2, b3, _, _⟩ := obj_cells h2; obtain ⟨b4, b5, _, _⟩ := obj_cells h3; obtain ⟨b6, b7, _, _⟩ := obj_cells h4; clear h1 h2 h3 h4); go_simp; try (with_reducible rfl))
    try simp only [Act.put, List.setIfInBounds_toArray, List.set_cons_zero, List.set_cons_succ]
    refine wpAnyH_done (by kernel_rfl) (NoPanic.normal ?_) _
    go_wp2
    go_ret
    exact ⟨rfl, hbt HB6.out hS⟩
theorem mwiths_walk (m : ByteArray) (A : Option Addr) (ca : Nat) (l : List Item) (no : Int) (t : ByteArray) (w : World) (hK : Kinds w) (_h1 : m.size ≤ maxLen) (hL : Tlvs w A l) (_h2 : l.length ≤ maxLen) (hf : ∀ x ∈ l, x.2.size ≤ maxLen) (_h3 : -9223372036854775808 ≤ no) (_h4 : no ≤ 9223372036854775807) (ht : t.size ≤ maxLen) :
    Calls Tryd.prog 5 #[.agg #[.string m, .slice A l.length ca], .int .i64 no, .string t] w fun e w' => e = .returned (.bool true) ∧ Below w.heap.size w w' := by
  cases hg : greatM m l
  · by_cases hh : 1000 < t.size
    · exact mwiths_great m A ca l no t w hK hL hf ht (.inr ⟨hg, hh⟩)
    · exact mwiths_short m A ca l no t w hK hL hf hg hh
  · exact mwiths_great m A ca l no t w hK hL hf ht (.inl hg)

end Go.Proofs.YthcdolkpdbbnkaaDoor
