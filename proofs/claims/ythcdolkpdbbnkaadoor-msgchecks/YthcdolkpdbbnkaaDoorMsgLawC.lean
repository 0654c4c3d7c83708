/-
  The law MsgChecks: for every schema and message, in every world that holds the table of kinds.
-/
import Derived.Test.YthcdolkpdbbnkaaDoorMsgDuo
namespace Go.Proofs.YthcdolkpdbbnkaaDoor
open Go.RowKit

set_option maxRecDepth 100000 in
set_option maxHeartbeats 3200000 in
theorem mchecks_long (st v : Int) (A : Option Addr) (len cap : Nat) (m : ByteArray) (B : Option Addr) (n c : Nat) (w : World) (hK : Kinds w) (h : 200 < len) :
    Calls Tryd.prog 3 #[.agg #[.int .i64 st, .int .i64 v, .slice A len cap], .agg #[.string m, .slice B n c]] w fun e w' => e = .returned (.bool true) ∧ Below w.heap.size w w' := by
  have t : decide ((200 : Int) < (len : Int)) = true := by simp; omega
  have HT := Lib.hid (duo_new w st v A len cap m B n c)
  have HK := Lib.hid (hK.below HT.out.1)
  clear h hK
  go_enter Tryd.func3, Tryd.ntmps3
  go_wp2_with fail
  generalize (w.alloc (.cells #[.int .i64 st, .int .i64 v, .slice A len cap] 24)).alloc (.cells #[.string m, .slice B n c] 27) = U at *
  refine (mawake_any _ HK.out).mono ?_
  rintro e w1 ⟨rfl, hb1⟩
  have HT1 := Lib.hid (HT.out.below hb1)
  have HK1 := Lib.hid (HK.out.below hb1)
  obtain ⟨b0, b1, b2⟩ := obj_cells3 HT1.out.2.1
  clear hb1
  go_wp2_with fail
  refine (mawake_any _ HK1.out).mono ?_
  rintro e w2 ⟨rfl, hb2⟩
  have HB2 := Lib.hid (hbt HT1.out.1 hb2)
  clear hb2 b0 b1 b2
  go_wp2
  go_ret
  exact ⟨rfl, HB2.out⟩
set_option maxRecDepth 100000 in
set_option maxHeartbeats 3200000 in
theorem mchecks_great (st v : Int) (A : Option Addr) (len cap : Nat) (m : ByteArray) (B : Option Addr) (c : Nat) (l : List Item) (w : World) (hK : Kinds w) (hL : Tlvs w B l) (hf : ∀ x ∈ l, x.2.size ≤ maxLen) (h : ¬ 200 < len) (hg : greatM m l = true) :
    Calls Tryd.prog 3 #[.agg #[.int .i64 st, .int .i64 v, .slice A len cap], .agg #[.string m, .slice B l.length c]] w fun e w' => e = .returned (.bool true) ∧ Below w.heap.size w w' := by
  have t : decide ((200 : Int) < (len : Int)) = false := by simp; omega
  have HT := Lib.hid (duo_new w st v A len cap m B l.length c)
  have HK := Lib.hid (hK.below HT.out.1)
  have HL := Lib.hid (hL.below HT.out.1)
  have HG := Lib.hid (fun W hW => mgreat_any m B c l W hW hf)
  rw [hg] at HG
  clear h hK hL hf hg
  generalize l.length = n at *
  go_enter Tryd.func3, Tryd.ntmps3
  go_wp2_with fail
  generalize (w.alloc (.cells #[.int .i64 st, .int .i64 v, .slice A len cap] 24)).alloc (.cells #[.string m, .slice B n c] 27) = U at *
  refine (mawake_any _ HK.out).mono ?_
  rintro e w1 ⟨rfl, hb1⟩
  have HT1 := Lib.hid (HT.out.below hb1)
  have HK1 := Lib.hid (HK.out.below hb1)
  have HL1 := Lib.hid (HL.out.below hb1)
  obtain ⟨b0, b1, b2⟩ := obj_cells3 HT1.out.2.1
  obtain ⟨b3, b4, _, _⟩ := obj_cells HT1.out.2.2
  clear hb1
  go_wp2_with fail
  refine (HG.out _ HL1.out).mono ?_
  rintro e w2 ⟨rfl, hb2⟩
  have HB2 := Lib.hid (hbt HT1.out.1 hb2)
  have HK2 := Lib.hid (HK1.out.below hb2)
  clear hb2 b0 b1 b2 b3 b4
  go_wp2_with fail
  refine (mawake_any _ HK2.out).mono ?_
  rintro e w3 ⟨rfl, hb3⟩
  have HB3 := Lib.hid (hbt HB2.out hb3)
  clear hb3
  go_wp2
  go_ret
  exact ⟨rfl, HB3.out⟩
set_option maxRecDepth 100000 in
set_option maxHeartbeats 6400000 in
theorem mchecks_short (st v : Int) (A : Option Addr) (cap : Nat) (sl : List Sp) (m : ByteArray) (B : Option Addr) (c : Nat) (l : List Item) (w : World) (hK : Kinds w) (hI : Spl w A sl) (hL : Tlvs w B l) (hf : ∀ x ∈ l, x.2.size ≤ maxLen) (hm : m.size ≤ maxLen) (h : ¬ 200 < sl.length) (hg : greatM m l = false) :
    Calls Tryd.prog 3 #[.agg #[.int .i64 st, .int .i64 v, .slice A sl.length cap], .agg #[.string m, .slice B l.length c]] w fun e w' => e = .returned (.bool true) ∧ Below w.heap.size w w' := by
  have t : decide ((200 : Int) < (sl.length : Int)) = false := by simp; omega
  have hn : sl.length ≤ 1000 := by omega
  have hl : l.length ≤ 1000 := by have := (great_in hg).2.1; omega
  have HT := Lib.hid (duo_new w st v A sl.length cap m B l.length c)
  have HK := Lib.hid (hK.below HT.out.1)
  have HL := Lib.hid (hL.below HT.out.1)
  have HI := Lib.hid (hI.below HT.out.1)
  have HG := Lib.hid (fun W hW => mgreat_any m B c l W hW hf)
  rw [hg] at HG
  have HY : Hid (∀ W, Spl W A sl → Calls Tryd.prog 11 #[.agg #[.int .i64 st, .int .i64 v, .slice A sl.length cap]] W fun e w' => ∃ x, e = .returned x ∧ ∃ A' c', x = .agg #[.int .i64 st, .int .i64 v, .slice A' sl.length c'] ∧ Spl w' A' sl ∧ Below W.heap.size W w') := fun W hW => (scopy_any st v A cap sl W hW hn).mono fun e w' ⟨A', c', he, ht, hb⟩ => ⟨_, he, A', c', rfl, ht, hb⟩
  have HZ : Hid (∀ W, Tlvs W B l → Calls Tryd.prog 12 #[.agg #[.string m, .slice B l.length c]] W fun e w' => ∃ x, e = .returned x ∧ ∃ A' c', x = .agg #[.string m, .slice A' l.length c'] ∧ Tlvs w' A' l ∧ Below W.heap.size W w') := fun W hW => (mcopy_any m B c l W hW hl).mono fun e w' ⟨A', c', he, ht, hb⟩ => ⟨_, he, A', c', rfl, ht, hb⟩
  have HC := Lib.hid (fun A' c' B' d' W h0 h1 h2 => mcheck_any st v A' c' sl m B' d' l W h0 h1 h2 hn hl hf)
  have HR := Lib.hid (fun W h1 h2 => mrcheck_any st v A cap sl m B c l W h1 h2 hn hl hf hm)
  clear h hK hL hI hf hg hm
  generalize (msgN st v sl m l).1 = z at *
  generalize (msgN st v sl m l).2 = z' at *
  generalize sl.length = len at *
  generalize l.length = n at *
  go_enter Tryd.func3, Tryd.ntmps3
  go_wp2_with fail
  generalize (w.alloc (.cells #[.int .i64 st, .int .i64 v, .slice A len cap] 24)).alloc (.cells #[.string m, .slice B n c] 27) = U at *
  refine (mawake_any _ HK.out).mono ?_
  rintro e x1 ⟨rfl, hb1⟩
  have HT1 := Lib.hid (HT.out.below hb1)
  have HK1 := Lib.hid (HK.out.below hb1)
  have HL1 := Lib.hid (HL.out.below hb1)
  have HI1 := Lib.hid (HI.out.below hb1)
  obtain ⟨b0, b1, b2⟩ := obj_cells3 HT1.out.2.1
  obtain ⟨b3, b4, _, _⟩ := obj_cells HT1.out.2.2
  clear hb1
  go_wp2_with fail
  refine (HG.out _ HL1.out).mono ?_
  rintro e x2 ⟨rfl, hb2⟩
  have HT2 := Lib.hid (HT1.out.below hb2)
  have HK2 := Lib.hid (HK1.out.below hb2)
  have HL2 := Lib.hid (HL1.out.below hb2)
  have HI2 := Lib.hid (HI1.out.below hb2)
  clear hb2 b0 b1 b2 b3 b4 HT HK HL HI HT1 HK1 HL1 HI1
  go_wp2_with fail
  refine wp_region_noPanic ?_
  refine wp_region_held_drew (S := (fun u => Below x2.heap.size x2 u)) (by kernel_rfl) ((Below.refl _ _).drew) (fun hS => ?_)
  refine give_val (i := 0) (v := ?_) rfl (by kernel_rfl) (by kernel_rfl) (by kernel_rfl) (fun _ _ _ h => h) (by rfl) (fun u hu => ?_) hS ?_
  rotate_left
  · ((have hT := HT2.out.below hu; obtain ⟨b0, b1, b2⟩ := obj_cells3 hT.2.1; obtain ⟨b3, b4, _, _⟩ := obj_cells hT.2.2; clear hT); go_simp; try (with_reducible rfl))
  try simp only [Act.put, List.setIfInBounds_toArray, List.set_cons_zero, List.set_cons_succ]
  refine give_val (i := 2) (v := ?_) rfl (by kernel_rfl) (by kernel_rfl) (by kernel_rfl) (fun _ _ _ h => h) (by rfl) (fun u hu => ?_) hS ?_
  rotate_left
  · ((have hT := HT2.out.below hu; obtain ⟨b0, b1, b2⟩ := obj_cells3 hT.2.1; obtain ⟨b3, b4, _, _⟩ := obj_cells hT.2.2; clear hT); go_simp; try (with_reducible rfl))
  try simp only [Act.put, List.setIfInBounds_toArray, List.set_cons_zero, List.set_cons_succ]
  refine give_val (i := 5) (v := ?_) rfl (by kernel_rfl) (by kernel_rfl) (by kernel_rfl) (fun _ _ _ h => h) (by rfl) (fun u hu => ?_) hS ?_
  rotate_left
  · ((have hT := HT2.out.below hu; obtain ⟨b0, b1, b2⟩ := obj_cells3 hT.2.1; obtain ⟨b3, b4, _, _⟩ := obj_cells hT.2.2; clear hT); go_simp; try (with_reducible rfl))
  try simp only [Act.put, List.setIfInBounds_toArray, List.set_cons_zero, List.set_cons_succ]
  refine give_val (i := 6) (v := ?_) rfl (by kernel_rfl) (by kernel_rfl) (by kernel_rfl) (fun _ _ _ h => h) (by rfl) (fun u hu => ?_) hS ?_
  rotate_left
  · ((have hT := HT2.out.below hu; obtain ⟨b0, b1, b2⟩ := obj_cells3 hT.2.1; obtain ⟨b3, b4, _, _⟩ := obj_cells hT.2.2; clear hT); go_simp; try (with_reducible rfl))
  try simp only [Act.put, List.setIfInBounds_toArray, List.set_cons_zero, List.set_cons_succ]
  refine only_some (i := 1) 11 #[.agg #[.int .i64 st, .int .i64 v, .slice A len cap]] rfl (by kernel_rfl) (by rfl) ((HY.out _ (HI2.out.below hS))) ?_ ?_
  · (go_simp; try (with_reducible rfl))
  intro v1 w1 hT
  obtain ⟨A1, c1, rfl, ht1, hb1⟩ := hT
  have hS' := hbt hS hb1
  refine ⟨hS', ?_⟩
  clear hS
  have hS := hS'; clear hS'
  try simp only [Act.put, List.setIfInBounds_toArray, List.set_cons_zero, List.set_cons_succ]
  refine only_some (i := 3) 12 #[.agg #[.string m, .slice B n c]] rfl (by kernel_rfl) (by rfl) ((HZ.out _ (HL2.out.below hS))) ?_ ?_
  · (go_simp; try (with_reducible rfl))
  intro v3 w3 hT
  obtain ⟨A3, c3, rfl, ht3, hb3⟩ := hT
  have hS' := hbt hS hb3
  refine ⟨hS', ?_⟩
  clear hS
  have hS := hS'; clear hS'
  try simp only [Act.put, List.setIfInBounds_toArray, List.set_cons_zero, List.set_cons_succ]
  replace ht1 := ht1.below hb3
  refine only_call (i := 4) 10 #[.agg #[.int .i64 st, .int .i64 v, .slice A1 len c1], .agg #[.string m, .slice A3 n c3]] rfl (by kernel_rfl) (by rfl) ((HC.out A1 c1 A3 c3 _ (HK2.out.below hS) ht1 ht3).mono fun e w' he => ⟨he.1, hbt hS he.2⟩) ?_ ?_
  · (go_simp; try (with_reducible rfl))
  clear hS
  intro w4 hS
  try simp only [Act.put, List.setIfInBounds_toArray, List.set_cons_zero, List.set_cons_succ]
  refine only_call (i := 7) 13 #[.agg #[.int .i64 st, .int .i64 v, .slice A len cap], .agg #[.string m, .slice B n c]] rfl (by kernel_rfl) (by rfl) ((HR.out _ (HI2.out.below hS) (HL2.out.below hS)).mono fun e w' he => ⟨he.1, hbt hS he.2⟩) ?_ ?_
  · (go_simp; try (with_reducible rfl))
  clear hS
  intro w7 hS
  try simp only [Act.put, List.setIfInBounds_toArray, List.set_cons_zero, List.set_cons_succ]
  refine give_val (i := 8) (v := (.bool true)) rfl (by kernel_rfl) (by kernel_rfl) (by kernel_rfl) (fun _ _ _ h => h) (by rfl) (fun u hu => ?_) hS ?_
  · ((have hT := HT2.out.below hu; obtain ⟨b0, b1, b2⟩ := obj_cells3 hT.2.1; obtain ⟨b3, b4, _, _⟩ := obj_cells hT.2.2; clear hT); go_simp; (try simp))
  try simp only [Act.put, List.setIfInBounds_toArray, List.set_cons_zero, List.set_cons_succ]
  refine give_val (i := 9) (v := ?_) rfl (by kernel_rfl) (by kernel_rfl) (by kernel_rfl) (fun _ _ _ h => h) (by rfl) (fun u hu => ?_) hS ?_
  rotate_left
  · ((have hT := HT2.out.below hu; obtain ⟨b0, b1, b2⟩ := obj_cells3 hT.2.1; obtain ⟨b3, b4, _, _⟩ := obj_cells hT.2.2; clear hT); go_simp; try (with_reducible rfl))
  try simp only [Act.put, List.setIfInBounds_toArray, List.set_cons_zero, List.set_cons_succ]
  refine wpAnyH_done (by kernel_rfl) (NoPanic.normal ?_) _
  go_wp2
  go_ret
  exact ⟨rfl, hbt HT2.out.1 hS⟩
theorem mchecks_walk (st v : Int) (A : Option Addr) (cap : Nat) (sl : List Sp) (m : ByteArray) (B : Option Addr) (c : Nat) (l : List Item) (w : World) (hK : Kinds w) (hI : Spl w A sl) (_h1 : sl.length ≤ maxLen) (hm : m.size ≤ maxLen) (hL : Tlvs w B l) (_h2 : l.length ≤ maxLen) (hf : ∀ x ∈ l, x.2.size ≤ maxLen) :
    Calls Tryd.prog 3 #[.agg #[.int .i64 st, .int .i64 v, .slice A sl.length cap], .agg #[.string m, .slice B l.length c]] w fun e w' => e = .returned (.bool true) ∧ Below w.heap.size w w' := by
  by_cases h : 200 < sl.length
  · exact mchecks_long st v A _ cap m B _ c w hK h
  · cases hg : greatM m l
    · exact mchecks_short st v A cap sl m B c l w hK hI hL hf hm h hg
    · exact mchecks_great st v A _ cap m B c l w hK hL hf h hg

end Go.Proofs.YthcdolkpdbbnkaaDoor
