/-
  The law MsgSame: for every two messages, in every world that holds the table of kinds.
-/
import Derived.Test.YthcdolkpdbbnkaaDoorMsgAwk
namespace Go.Proofs.YthcdolkpdbbnkaaDoor
open Go.RowKit

set_option maxRecDepth 100000 in
set_option maxHeartbeats 6400000 in
theorem mlsame_great (m : ByteArray) (A : Option Addr) (ca : Nat) (l : List Item) (y : ByteArray) (B : Option Addr) (cb : Nat) (k : List Item) (w : World) (hK : Kinds w) (hL : Tlvs w A l) (hM : Tlvs w B k) (hf : ∀ x ∈ l, x.2.size ≤ maxLen) (hf2 : ∀ x ∈ k, x.2.size ≤ maxLen) (hg : greatM m l = true ∨ greatM m l = false ∧ greatM y k = true) :
    Calls Tryd.prog 6 #[.agg #[.string m, .slice A l.length ca], .agg #[.string y, .slice B k.length cb]] w fun e w' => e = .returned (.bool true) ∧ Below w.heap.size w w' := by
  have HT := Lib.hid (mtwins_new w m A l.length ca y B k.length cb)
  have HK := Lib.hid (hK.below HT.out.1)
  have HL := Lib.hid (hL.below HT.out.1)
  have HM := Lib.hid (hM.below HT.out.1)
  have HG := Lib.hid (fun W hW => mgreat_any m A ca l W hW hf)
  have HH := Lib.hid (fun W hW => mgreat_any y B cb k W hW hf2)
  clear hK hL hM hf hf2
  generalize l.length = n at *
  generalize k.length = n' at *
  rcases hg with hg | ⟨hg, hh⟩
  · rw [hg] at HG
    clear hg HH
    go_enter Tryd.func6, Tryd.ntmps6
    go_wp2_with fail
    generalize (w.alloc (.cells #[.string m, .slice A n ca] 27)).alloc (.cells #[.string y, .slice B n' cb] 27) = U at *
    refine (mawake_any _ HK.out).mono ?_
    rintro e w1 ⟨rfl, hb1⟩
    have HT1 := Lib.hid (HT.out.below hb1)
    have HK1 := Lib.hid (HK.out.below hb1)
    have HL1 := Lib.hid (HL.out.below hb1)
    obtain ⟨b0, b1, _, _⟩ := obj_cells HT1.out.2.1
    clear hb1
    go_wp2_with fail
    refine (HG.out _ HL1.out).mono ?_
    rintro e w2 ⟨rfl, hb2⟩
    have HB2 := Lib.hid (hbt HT1.out.1 hb2)
    have HK2 := Lib.hid (HK1.out.below hb2)
    clear hb2 b0 b1
    go_wp2_with fail
    refine (mawake_any _ HK2.out).mono ?_
    rintro e w3 ⟨rfl, hb3⟩
    have HB3 := Lib.hid (hbt HB2.out hb3)
    clear hb3
    go_wp2
    go_ret
    exact ⟨rfl, HB3.out⟩
  · rw [hg] at HG
    rw [hh] at HH
    clear hg hh
    go_enter Tryd.func6, Tryd.ntmps6
    go_wp2_with fail
    generalize (w.alloc (.cells #[.string m, .slice A n ca] 27)).alloc (.cells #[.string y, .slice B n' cb] 27) = U at *
    refine (mawake_any _ HK.out).mono ?_
    rintro e w1 ⟨rfl, hb1⟩
    have HT1 := Lib.hid (HT.out.below hb1)
    have HK1 := Lib.hid (HK.out.below hb1)
    have HL1 := Lib.hid (HL.out.below hb1)
    have HM1 := Lib.hid (HM.out.below hb1)
    obtain ⟨b0, b1, _, _⟩ := obj_cells HT1.out.2.1
    clear hb1
    go_wp2_with fail
    refine (HG.out _ HL1.out).mono ?_
    rintro e w2 ⟨rfl, hb2⟩
    have HT2 := Lib.hid (HT1.out.below hb2)
    have HK2 := Lib.hid (HK1.out.below hb2)
    have HM2 := Lib.hid (HM1.out.below hb2)
    obtain ⟨b3, b4, _, _⟩ := obj_cells HT2.out.2.2
    clear hb2 b0 b1
    go_wp2_with fail
    refine (HH.out _ HM2.out).mono ?_
    rintro e w3 ⟨rfl, hb3⟩
    have HB3 := Lib.hid (hbt HT2.out.1 hb3)
    have HK3 := Lib.hid (HK2.out.below hb3)
    clear hb3 b3 b4
    go_wp2_with fail
    refine (mawake_any _ HK3.out).mono ?_
    rintro e w4 ⟨rfl, hb4⟩
    have HB4 := Lib.hid (hbt HB3.out hb4)
    clear hb4
    go_wp2
    go_ret
    exact ⟨rfl, HB4.out⟩
set_option maxRecDepth 100000 in
set_option maxHeartbeats 6400000 in
theorem mlsame_short (m : ByteArray) (A : Option Addr) (ca : Nat) (l : List Item) (y : ByteArray) (B : Option Addr) (cb : Nat) (k : List Item) (w : World) (hK : Kinds w) (hL : Tlvs w A l) (hM : Tlvs w B k) (hf : ∀ x ∈ l, x.2.size ≤ maxLen) (hf2 : ∀ x ∈ k, x.2.size ≤ maxLen) (hg : greatM m l = false) (hh : greatM y k = false) :
    Calls Tryd.prog 6 #[.agg #[.string m, .slice A l.length ca], .agg #[.string y, .slice B k.length cb]] w fun e w' => e = .returned (.bool true) ∧ Below w.heap.size w w' := by
  have hl : l.length ≤ 1000 := by have := (great_in hg).2.1; omega
  have hk : k.length ≤ 1000 := by have := (great_in hh).2.1; omega
  have HT := Lib.hid (mtwins_new w m A l.length ca y B k.length cb)
  have HK := Lib.hid (hK.below HT.out.1)
  have HL := Lib.hid (hL.below HT.out.1)
  have HM := Lib.hid (hM.below HT.out.1)
  have HG := Lib.hid (fun W hW => mgreat_any m A ca l W hW hf)
  have HH := Lib.hid (fun W hW => mgreat_any y B cb k W hW hf2)
  rw [hg] at HG
  rw [hh] at HH
  have HS := Lib.hid (fun W h1 h2 => msame_any m A ca l y B cb k W h1 h2 hl)
  have HQ := Lib.hid (fun W h1 h2 => msame_any y B cb k m A ca l W h1 h2 hk)
  have HR := Lib.hid (fun W h1 h2 => mrsame_any m A ca l y B cb k W h1 h2 hl)
  have HE := Lib.hid (fun B' d' W h1 h2 => msame_any m A ca l m B' d' l W h1 h2 hl)
  rw [sameM_comm] at HQ
  rw [sameM_refl] at HE
  have HZ : Hid (∀ W, Tlvs W A l → Calls Tryd.prog 12 #[.agg #[.string m, .slice A l.length ca]] W fun e w' => ∃ x, e = .returned x ∧ ∃ A' c', x = .agg #[.string m, .slice A' l.length c'] ∧ Tlvs w' A' l ∧ Below W.heap.size W w') := fun W hW => (mcopy_any m A ca l W hW hl).mono fun e w' ⟨A', c', he, ht, hb⟩ => ⟨_, he, A', c', rfl, ht, hb⟩
  clear hK hL hM hf hf2 hg hh
  generalize sameM m l y k = r at *
  generalize l.length = n at *
  generalize k.length = n' at *
  go_enter Tryd.func6, Tryd.ntmps6
  go_wp2_with fail
  generalize (w.alloc (.cells #[.string m, .slice A n ca] 27)).alloc (.cells #[.string y, .slice B n' cb] 27) = U at *
  refine (mawake_any _ HK.out).mono ?_
  rintro e x1 ⟨rfl, hb1⟩
  have HT1 := Lib.hid (HT.out.below hb1)
  have HL1 := Lib.hid (HL.out.below hb1)
  have HM1 := Lib.hid (HM.out.below hb1)
  obtain ⟨b0, b1, _, _⟩ := obj_cells HT1.out.2.1
  clear hb1
  go_wp2_with fail
  refine (HG.out _ HL1.out).mono ?_
  rintro e x2 ⟨rfl, hb2⟩
  have HT2 := Lib.hid (HT1.out.below hb2)
  have HL2 := Lib.hid (HL1.out.below hb2)
  have HM2 := Lib.hid (HM1.out.below hb2)
  obtain ⟨b3, b4, _, _⟩ := obj_cells HT2.out.2.2
  clear hb2 b0 b1
  go_wp2_with fail
  refine (HH.out _ HM2.out).mono ?_
  rintro e x3 ⟨rfl, hb3⟩
  have HT3 := Lib.hid (HT2.out.below hb3)
  have HL3 := Lib.hid (HL2.out.below hb3)
  have HM3 := Lib.hid (HM2.out.below hb3)
  clear hb3 b3 b4 HT HT1 HT2 HL HL1 HL2 HM HM1 HM2 HK
  go_wp2_with fail
  refine wp_region_noPanic ?_
  refine wp_region_held_drew (S := (fun u => Below x3.heap.size x3 u)) (by kernel_rfl) ((Below.refl _ _).drew) (fun hS => ?_)
  refine give_val (i := 0) (v := ?_) rfl (by kernel_rfl) (by kernel_rfl) (by kernel_rfl) (fun _ _ _ h => h) (by rfl) (fun u hu => ?_) hS ?_
  rotate_left
  · ((have hT := HT3.out.below hu; obtain ⟨b0, b1, _, _⟩ := obj_cells hT.2.1; obtain ⟨b3, b4, _, _⟩ := obj_cells hT.2.2; clear hT); go_simp; try (with_reducible rfl))
  try simp only [Act.put, List.setIfInBounds_toArray, List.set_cons_zero, List.set_cons_succ]
  refine give_val (i := 1) (v := ?_) rfl (by kernel_rfl) (by kernel_rfl) (by kernel_rfl) (fun _ _ _ h => h) (by rfl) (fun u hu => ?_) hS ?_
  rotate_left
  · ((have hT := HT3.out.below hu; obtain ⟨b0, b1, _, _⟩ := obj_cells hT.2.1; obtain ⟨b3, b4, _, _⟩ := obj_cells hT.2.2; clear hT); go_simp; try (with_reducible rfl))
  try simp only [Act.put, List.setIfInBounds_toArray, List.set_cons_zero, List.set_cons_succ]
  refine give_val (i := 3) (v := ?_) rfl (by kernel_rfl) (by kernel_rfl) (by kernel_rfl) (fun _ _ _ h => h) (by rfl) (fun u hu => ?_) hS ?_
  rotate_left
  · ((have hT := HT3.out.below hu; obtain ⟨b0, b1, _, _⟩ := obj_cells hT.2.1; obtain ⟨b3, b4, _, _⟩ := obj_cells hT.2.2; clear hT); go_simp; try (with_reducible rfl))
  try simp only [Act.put, List.setIfInBounds_toArray, List.set_cons_zero, List.set_cons_succ]
  refine give_val (i := 4) (v := ?_) rfl (by kernel_rfl) (by kernel_rfl) (by kernel_rfl) (fun _ _ _ h => h) (by rfl) (fun u hu => ?_) hS ?_
  rotate_left
  · ((have hT := HT3.out.below hu; obtain ⟨b0, b1, _, _⟩ := obj_cells hT.2.1; obtain ⟨b3, b4, _, _⟩ := obj_cells hT.2.2; clear hT); go_simp; try (with_reducible rfl))
  try simp only [Act.put, List.setIfInBounds_toArray, List.set_cons_zero, List.set_cons_succ]
  refine only_call (i := 2) 25 #[.agg #[.string m, .slice A n ca], .agg #[.string y, .slice B n' cb]] rfl (by kernel_rfl) (by rfl) ((HS.out _ (HL3.out.below hS) (HM3.out.below hS)).mono fun e w' he => ⟨he.1, hbt hS he.2⟩) ?_ ?_
  · (go_simp; try (with_reducible rfl))
  clear hS
  intro w2 hS
  try simp only [Act.put, List.setIfInBounds_toArray, List.set_cons_zero, List.set_cons_succ]
  refine only_call (i := 5) 22 #[.agg #[.string m, .slice A n ca], .agg #[.string y, .slice B n' cb]] rfl (by kernel_rfl) (by rfl) ((HR.out _ (HL3.out.below hS) (HM3.out.below hS)).mono fun e w' he => ⟨he.1, hbt hS he.2⟩) ?_ ?_
  · (go_simp; try (with_reducible rfl))
  clear hS
  intro w5 hS
  try simp only [Act.put, List.setIfInBounds_toArray, List.set_cons_zero, List.set_cons_succ]
  refine give_val (i := 6) (v := (.bool true)) rfl (by kernel_rfl) (by kernel_rfl) (by kernel_rfl) (fun _ _ _ h => h) (by rfl) (fun u hu => ?_) hS ?_
  · ((have hT := HT3.out.below hu; obtain ⟨b0, b1, _, _⟩ := obj_cells hT.2.1; obtain ⟨b3, b4, _, _⟩ := obj_cells hT.2.2; clear hT); go_simp; (try simp))
  try simp only [Act.put, List.setIfInBounds_toArray, List.set_cons_zero, List.set_cons_succ]
  refine give_val (i := 7) (v := ?_) rfl (by kernel_rfl) (by kernel_rfl) (by kernel_rfl) (fun _ _ _ h => h) (by rfl) (fun u hu => ?_) hS ?_
  rotate_left
  · ((have hT := HT3.out.below hu; obtain ⟨b0, b1, _, _⟩ := obj_cells hT.2.1; obtain ⟨b3, b4, _, _⟩ := obj_cells hT.2.2; clear hT); go_simp; try (with_reducible rfl))
  try simp only [Act.put, List.setIfInBounds_toArray, List.set_cons_zero, List.set_cons_succ]
  refine give_val (i := 8) (v := ?_) rfl (by kernel_rfl) (by kernel_rfl) (by kernel_rfl) (fun _ _ _ h => h) (by rfl) (fun u hu => ?_) hS ?_
  rotate_left
  · ((have hT := HT3.out.below hu; obtain ⟨b0, b1, _, _⟩ := obj_cells hT.2.1; obtain ⟨b3, b4, _, _⟩ := obj_cells hT.2.2; clear hT); go_simp; try (with_reducible rfl))
  try simp only [Act.put, List.setIfInBounds_toArray, List.set_cons_zero, List.set_cons_succ]
  refine give_val (i := 9) (v := ?_) rfl (by kernel_rfl) (by kernel_rfl) (by kernel_rfl) (fun _ _ _ h => h) (by rfl) (fun u hu => ?_) hS ?_
  rotate_left
  · ((have hT := HT3.out.below hu; obtain ⟨b0, b1, _, _⟩ := obj_cells hT.2.1; obtain ⟨b3, b4, _, _⟩ := obj_cells hT.2.2; clear hT); go_simp; try (with_reducible rfl))
  try simp only [Act.put, List.setIfInBounds_toArray, List.set_cons_zero, List.set_cons_succ]
  refine give_val (i := 11) (v := ?_) rfl (by kernel_rfl) (by kernel_rfl) (by kernel_rfl) (fun _ _ _ h => h) (by rfl) (fun u hu => ?_) hS ?_
  rotate_left
  · ((have hT := HT3.out.below hu; obtain ⟨b0, b1, _, _⟩ := obj_cells hT.2.1; obtain ⟨b3, b4, _, _⟩ := obj_cells hT.2.2; clear hT); go_simp; try (with_reducible rfl))
  try simp only [Act.put, List.setIfInBounds_toArray, List.set_cons_zero, List.set_cons_succ]
  refine give_val (i := 12) (v := ?_) rfl (by kernel_rfl) (by kernel_rfl) (by kernel_rfl) (fun _ _ _ h => h) (by rfl) (fun u hu => ?_) hS ?_
  rotate_left
  · ((have hT := HT3.out.below hu; obtain ⟨b0, b1, _, _⟩ := obj_cells hT.2.1; obtain ⟨b3, b4, _, _⟩ := obj_cells hT.2.2; clear hT); go_simp; try (with_reducible rfl))
  try simp only [Act.put, List.setIfInBounds_toArray, List.set_cons_zero, List.set_cons_succ]
  refine only_call (i := 10) 25 #[.agg #[.string y, .slice B n' cb], .agg #[.string m, .slice A n ca]] rfl (by kernel_rfl) (by rfl) ((HQ.out _ (HM3.out.below hS) (HL3.out.below hS)).mono fun e w' he => ⟨he.1, hbt hS he.2⟩) ?_ ?_
  · (go_simp; try (with_reducible rfl))
  clear hS
  intro w10 hS
  try simp only [Act.put, List.setIfInBounds_toArray, List.set_cons_zero, List.set_cons_succ]
  refine only_call (i := 13) 25 #[.agg #[.string m, .slice A n ca], .agg #[.string y, .slice B n' cb]] rfl (by kernel_rfl) (by rfl) ((HS.out _ (HL3.out.below hS) (HM3.out.below hS)).mono fun e w' he => ⟨he.1, hbt hS he.2⟩) ?_ ?_
  · (go_simp; try (with_reducible rfl))
  clear hS
  intro w13 hS
  try simp only [Act.put, List.setIfInBounds_toArray, List.set_cons_zero, List.set_cons_succ]
  refine give_val (i := 14) (v := (.bool true)) rfl (by kernel_rfl) (by kernel_rfl) (by kernel_rfl) (fun _ _ _ h => h) (by rfl) (fun u hu => ?_) hS ?_
  · ((have hT := HT3.out.below hu; obtain ⟨b0, b1, _, _⟩ := obj_cells hT.2.1; obtain ⟨b3, b4, _, _⟩ := obj_cells hT.2.2; clear hT); go_simp; (try simp))
  try simp only [Act.put, List.setIfInBounds_toArray, List.set_cons_zero, List.set_cons_succ]
  refine give_val (i := 15) (v := ?_) rfl (by kernel_rfl) (by kernel_rfl) (by kernel_rfl) (fun _ _ _ h => h) (by rfl) (fun u hu => ?_) hS ?_
  rotate_left
  · ((have hT := HT3.out.below hu; obtain ⟨b0, b1, _, _⟩ := obj_cells hT.2.1; obtain ⟨b3, b4, _, _⟩ := obj_cells hT.2.2; clear hT); go_simp; try (with_reducible rfl))
  try simp only [Act.put, List.setIfInBounds_toArray, List.set_cons_zero, List.set_cons_succ]
  refine give_val (i := 16) (v := ?_) rfl (by kernel_rfl) (by kernel_rfl) (by kernel_rfl) (fun _ _ _ h => h) (by rfl) (fun u hu => ?_) hS ?_
  rotate_left
  · ((have hT := HT3.out.below hu; obtain ⟨b0, b1, _, _⟩ := obj_cells hT.2.1; obtain ⟨b3, b4, _, _⟩ := obj_cells hT.2.2; clear hT); go_simp; try (with_reducible rfl))
  try simp only [Act.put, List.setIfInBounds_toArray, List.set_cons_zero, List.set_cons_succ]
  refine give_val (i := 17) (v := ?_) rfl (by kernel_rfl) (by kernel_rfl) (by kernel_rfl) (fun _ _ _ h => h) (by rfl) (fun u hu => ?_) hS ?_
  rotate_left
  · ((have hT := HT3.out.below hu; obtain ⟨b0, b1, _, _⟩ := obj_cells hT.2.1; obtain ⟨b3, b4, _, _⟩ := obj_cells hT.2.2; clear hT); go_simp; try (with_reducible rfl))
  try simp only [Act.put, List.setIfInBounds_toArray, List.set_cons_zero, List.set_cons_succ]
  refine give_val (i := 18) (v := ?_) rfl (by kernel_rfl) (by kernel_rfl) (by kernel_rfl) (fun _ _ _ h => h) (by rfl) (fun u hu => ?_) hS ?_
  rotate_left
  · ((have hT := HT3.out.below hu; obtain ⟨b0, b1, _, _⟩ := obj_cells hT.2.1; obtain ⟨b3, b4, _, _⟩ := obj_cells hT.2.2; clear hT); go_simp; try (with_reducible rfl))
  try simp only [Act.put, List.setIfInBounds_toArray, List.set_cons_zero, List.set_cons_succ]
  refine only_some (i := 19) 12 #[.agg #[.string m, .slice A n ca]] rfl (by kernel_rfl) (by rfl) ((HZ.out _ (HL3.out.below hS))) ?_ ?_
  · (go_simp; try (with_reducible rfl))
  intro v19 w19 hT
  obtain ⟨A19, c19, rfl, ht19, hb19⟩ := hT
  have hS' := hbt hS hb19
  refine ⟨hS', ?_⟩
  clear hS
  have hS := hS'; clear hS'
  try simp only [Act.put, List.setIfInBounds_toArray, List.set_cons_zero, List.set_cons_succ]
  refine only_call (i := 20) 25 #[.agg #[.string m, .slice A n ca], .agg #[.string m, .slice A19 n c19]] rfl (by kernel_rfl) (by rfl) ((HE.out A19 c19 _ (HL3.out.below hS) ht19).mono fun e w' he => ⟨he.1, hbt hS he.2⟩) ?_ ?_
  · (go_simp; try (with_reducible rfl))
  clear hS
  intro w20 hS
  try simp only [Act.put, List.setIfInBounds_toArray, List.set_cons_zero, List.set_cons_succ]
  refine give_val (i := 21) (v := ?_) rfl (by kernel_rfl) (by kernel_rfl) (by kernel_rfl) (fun _ _ _ h => h) (by rfl) (fun u hu => ?_) hS ?_
  rotate_left
  · ((have hT := HT3.out.below hu; obtain ⟨b0, b1, _, _⟩ := obj_cells hT.2.1; obtain ⟨b3, b4, _, _⟩ := obj_cells hT.2.2; clear hT); go_simp; try (with_reducible rfl))
  try simp only [Act.put, List.setIfInBounds_toArray, List.set_cons_zero, List.set_cons_succ]
  refine give_val (i := 22) (v := ?_) rfl (by kernel_rfl) (by kernel_rfl) (by kernel_rfl) (fun _ _ _ h => h) (by rfl) (fun u hu => ?_) hS ?_
  rotate_left
  · ((have hT := HT3.out.below hu; obtain ⟨b0, b1, _, _⟩ := obj_cells hT.2.1; obtain ⟨b3, b4, _, _⟩ := obj_cells hT.2.2; clear hT); go_simp; try (with_reducible rfl))
  try simp only [Act.put, List.setIfInBounds_toArray, List.set_cons_zero, List.set_cons_succ]
  refine wpAnyH_done (by kernel_rfl) (NoPanic.normal ?_) _
  go_wp2
  go_ret
  exact ⟨rfl, hbt HT3.out.1 hS⟩
theorem mlsame_walk (m : ByteArray) (A : Option Addr) (ca : Nat) (l : List Item) (y : ByteArray) (B : Option Addr) (cb : Nat) (k : List Item) (w : World) (hK : Kinds w) (_h1 : m.size ≤ maxLen) (hL : Tlvs w A l) (_h2 : l.length ≤ maxLen) (hf : ∀ x ∈ l, x.2.size ≤ maxLen) (_h3 : y.size ≤ maxLen) (hM : Tlvs w B k) (_h4 : k.length ≤ maxLen) (hf2 : ∀ x ∈ k, x.2.size ≤ maxLen) :
    Calls Tryd.prog 6 #[.agg #[.string m, .slice A l.length ca], .agg #[.string y, .slice B k.length cb]] w fun e w' => e = .returned (.bool true) ∧ Below w.heap.size w w' := by
  cases hg : greatM m l
  · cases hh : greatM y k
    · exact mlsame_short m A ca l y B cb k w hK hL hM hf hf2 hg hh
    · exact mlsame_great m A ca l y B cb k w hK hL hM hf hf2 (.inr ⟨hg, hh⟩)
  · exact mlsame_great m A ca l y B cb k w hK hL hM hf hf2 (.inl hg)

end Go.Proofs.YthcdolkpdbbnkaaDoor
