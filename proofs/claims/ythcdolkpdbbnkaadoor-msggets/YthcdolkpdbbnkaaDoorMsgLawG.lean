/-
  The law MsgGets: for every message and number, in every world that holds the table of kinds.
-/
import Derived.Test.YthcdolkpdbbnkaaDoorMsgAwk
import Derived.Test.YthcdolkpdbbnkaaDoorPackFld
namespace Go.Proofs.YthcdolkpdbbnkaaDoor
open Go.RowKit

set_option maxRecDepth 100000 in
set_option maxHeartbeats 6400000 in
theorem mgets_great (m : ByteArray) (A : Option Addr) (ca : Nat) (l : List Item) (no : Int) (w : World) (hK : Kinds w) (hL : Tlvs w A l) (hf : ∀ x ∈ l, x.2.size ≤ maxLen) (hg : greatM m l = true) :
    Calls Tryd.prog 4 #[.agg #[.string m, .slice A l.length ca], .int .i64 no] w fun e w' => e = .returned (.bool true) ∧ Below w.heap.size w w' := by
  have HB0 := Lib.hid (below_al w (.cells #[.string m, .slice A l.length ca] 27))
  have HX0 := Lib.hid (mbox_new w m A l.length ca)
  have HK := Lib.hid (hK.below HB0.out)
  have HL := Lib.hid (hL.below HB0.out)
  have HG := Lib.hid (fun W hW => mgreat_any m A ca l W hW hf)
  rw [hg] at HG
  clear hK hL hf hg
  generalize l.length = n at *
  go_enter Tryd.func4, Tryd.ntmps4
  go_wp2_with fail
  generalize w.alloc (.cells #[.string m, .slice A n ca] 27) = U at *
  refine (mawake_any _ HK.out).mono ?_
  rintro e w1 ⟨rfl, hb1⟩
  have HB1 := Lib.hid (hbt HB0.out hb1)
  have HK1 := Lib.hid (HK.out.below hb1)
  have HL1 := Lib.hid (HL.out.below hb1)
  obtain ⟨b0, b1, _, _⟩ := obj_cells (HX0.out.below hb1)
  clear hb1
  go_wp2_with fail
  refine (HG.out _ HL1.out).mono ?_
  rintro e w2 ⟨rfl, hb2⟩
  have HB2 := Lib.hid (hbt HB1.out hb2)
  have HK2 := Lib.hid (HK1.out.below hb2)
  clear hb2 b0 b1
  go_wp2_with fail
  refine (mawake_any _ HK2.out).mono ?_
  rintro e w3 ⟨rfl, hb3⟩
  have HB3 := Lib.hid (hbt HB2.out hb3)
  clear hb3
  go_wp2
  go_ret
  exact ⟨rfl, HB3.out⟩
/-- What the walk is told: a found text, with its place, or none. -/
def ToldV (w : World) (A : Option Addr) (len : Nat) (s : ByteArray) (ok : Bool) (i : Int) : Prop := (s = ⟨#[]⟩ ∧ ok = false ∧ i = -1) ∨ (∃ (k : Nat) (a : Addr), k < len ∧ i = (k : Int) ∧ ok = true ∧ A = some a ∧ w.cell? ⟨(a.add (k * 2)).block, (a.add (k * 2)).off + 1, none⟩ = some (.string s))

set_option maxRecDepth 100000 in
set_option maxHeartbeats 12800000 in
theorem mgets_short (m : ByteArray) (A : Option Addr) (ca : Nat) (l : List Item) (no : Int) (w : World) (hK : Kinds w) (hL : Tlvs w A l) (hf : ∀ x ∈ l, x.2.size ≤ maxLen) (hg : greatM m l = false) :
    Calls Tryd.prog 4 #[.agg #[.string m, .slice A l.length ca], .int .i64 no] w fun e w' => e = .returned (.bool true) ∧ Below w.heap.size w w' := by
  have hl : l.length ≤ 1000 := by have := (great_in hg).2.1; omega
  have HB0 := Lib.hid (below_al w (.cells #[.string m, .slice A l.length ca] 27))
  have HX0 := Lib.hid (mbox_new w m A l.length ca)
  have HK := Lib.hid (hK.below HB0.out)
  have HL := Lib.hid (hL.below HB0.out)
  have HG := Lib.hid (fun W hW => mgreat_any m A ca l W hW hf)
  rw [hg] at HG
  have HY := Lib.hid (fun W hW => mcopy_any m A ca l W hW hl)
  have HF := Lib.hid (fun A' c' W hW => mget_any m A' c' l no W hW hl)
  have HI := Lib.hid (fun W hW => mfind_any m A ca l no W hW hl)
  have HN := Lib.hid (fun W hW => mnumbers_any m A ca l W hW hl)
  have HH := Lib.hid (fun A' c' W hW => refHalves_any A' c' (tagsOf l) W hW (by rw [tags_length]; exact hl))
  have HS := Lib.hid (fun A' c' W hW => mset_any m A' c' l W hW hl)
  have HBT := Lib.hid (fun W => bits_any (ofH (tagsOf l)) (ofL (tagsOf l)) W)
  have HTD : Hid (∀ W, Tlvs W A l → ToldV W A l.length (findS l no) (findB l no) (vfI no 0 l)) := fun W hW => by
    rcases vfind_rel no l 0 with ⟨h1, h2, h3⟩ | ⟨k, hk, h1, h2, h3⟩
    · exact .inl ⟨h2, h1, h3⟩
    · obtain ⟨a, ha, _, hc⟩ := hW k hk
      exact .inr ⟨k, a, hk, by rw [h1, Nat.zero_add], h2, ha, by rw [h3]; exact hc⟩
  clear hK hL hf hg
  unfold setV at *
  generalize findS l no = s at *
  generalize findB l no = ok at *
  generalize vfI no 0 l = i at *
  generalize ofH (tagsOf l) = hh at *
  generalize ofL (tagsOf l) = ho at *
  generalize (tagsOf l).length = nl at *
  generalize l.length = n at *
  go_enter Tryd.func4, Tryd.ntmps4
  go_wp2_with fail
  generalize w.alloc (.cells #[.string m, .slice A n ca] 27) = U at *
  refine (mawake_any _ HK.out).mono ?_
  rintro e w1 ⟨rfl, hb1⟩
  have HB1 := Lib.hid (hbt HB0.out hb1)
  have HL1 := Lib.hid (HL.out.below hb1)
  have HX1 := Lib.hid (HX0.out.below hb1)
  obtain ⟨b0, b1, _, _⟩ := obj_cells HX1.out
  clear hb1 HL HX0 HK
  go_wp2_with fail
  refine (HG.out _ HL1.out).mono ?_
  rintro e w2 ⟨rfl, hb2⟩
  have HB2 := Lib.hid (hbt HB1.out hb2)
  have HL2 := Lib.hid (HL1.out.below hb2)
  have HX2 := Lib.hid (HX1.out.below hb2)
  obtain ⟨b0, b1, _, _⟩ := obj_cells HX2.out
  clear hb2 HL1 HX1
  go_wp2_with fail
  refine (HY.out _ HL2.out).mono ?_
  rintro e w3 ⟨A3, c3, rfl, ht3, hb3⟩
  have HB3 := Lib.hid (hbt HB2.out hb3)
  have HL3 := Lib.hid (HL2.out.below hb3)
  have HX3 := Lib.hid (HX2.out.below hb3)
  have HT3 := Lib.hid ht3
  clear hb3 ht3 b0 b1 HL2 HX2
  go_wp2_with fail
  refine (HF.out _ _ _ HT3.out).mono ?_
  rintro e w4 ⟨rfl, hb4⟩
  have HB4 := Lib.hid (hbt HB3.out hb4)
  have HL4 := Lib.hid (HL3.out.below hb4)
  have HX4 := Lib.hid (HX3.out.below hb4)
  obtain ⟨b0, b1, _, _⟩ := obj_cells HX4.out
  clear hb4 HL3 HX3 HT3
  go_wp2_with fail
  refine (HI.out _ HL4.out).mono ?_
  rintro e w5 ⟨rfl, hb5⟩
  have HB5 := Lib.hid (hbt HB4.out hb5)
  have HL5 := Lib.hid (HL4.out.below hb5)
  have HX5 := Lib.hid (HX4.out.below hb5)
  obtain ⟨b0, b1, _, _⟩ := obj_cells HX5.out
  clear hb5 HL4 HX4
  go_wp2_with fail
  refine (HN.out _ HL5.out).mono ?_
  rintro e w6 ⟨A6, c6, rfl, ht6, hb6⟩
  have HB6 := Lib.hid (hbt HB5.out hb6)
  have HL6 := Lib.hid (HL5.out.below hb6)
  have HX6 := Lib.hid (HX5.out.below hb6)
  have HT6 := Lib.hid ht6
  clear hb6 ht6 b0 b1 HL5 HX5
  go_wp2_with fail
  refine (HH.out _ _ _ HT6.out).mono ?_
  rintro e w7 ⟨rfl, rfl⟩
  obtain ⟨b0, b1, _, _⟩ := obj_cells HX6.out
  go_wp2_with fail
  refine (HY.out _ HL6.out).mono ?_
  rintro e w8 ⟨A8, c8, rfl, ht8, hb8⟩
  have HB8 := Lib.hid (hbt HB6.out hb8)
  have HL8 := Lib.hid (HL6.out.below hb8)
  have HX8 := Lib.hid (HX6.out.below hb8)
  have HT8 := Lib.hid ht8
  clear hb8 ht8 b0 b1 HL6 HX6 HT6
  go_wp2_with fail
  refine (HS.out _ _ _ HT8.out).mono ?_
  rintro e w9 ⟨rfl, hb9⟩
  have HB9 := Lib.hid (hbt HB8.out hb9)
  have HL9 := Lib.hid (HL8.out.below hb9)
  have HX9 := Lib.hid (HX8.out.below hb9)
  clear hb9 HL8 HX8 HT8
  go_wp2_with fail
  refine (HBT.out _).mono ?_
  rintro e w10 ⟨rfl, hb10⟩
  have HB10 := Lib.hid (hbt HB9.out hb10)
  have HX10 := Lib.hid (HX9.out.below hb10)
  have htd := HTD.out _ (HL9.out.below hb10)
  clear hb10 HL9 HX9
  obtain ⟨b0, b1, _, _⟩ := obj_cells HX10.out
  rcases htd with ⟨rfl, rfl, rfl⟩ | ⟨k, a, hk, rfl, rfl, rfl, hc⟩
  · go_wp2
    go_ret
    exact ⟨rfl, HB10.out⟩
  · go_wp2
    go_ret
    exact ⟨by simp, HB10.out⟩
theorem mgets_walk (m : ByteArray) (A : Option Addr) (ca : Nat) (l : List Item) (no : Int) (w : World) (hK : Kinds w) (_h1 : m.size ≤ maxLen) (hL : Tlvs w A l) (_h2 : l.length ≤ maxLen) (hf : ∀ x ∈ l, x.2.size ≤ maxLen) (_h3 : -9223372036854775808 ≤ no) (_h4 : no ≤ 9223372036854775807) :
    Calls Tryd.prog 4 #[.agg #[.string m, .slice A l.length ca], .int .i64 no] w fun e w' => e = .returned (.bool true) ∧ Below w.heap.size w w' := by
  cases hg : greatM m l
  · exact mgets_short m A ca l no w hK hL hf hg
  · exact mgets_great m A ca l no w hK hL hf hg

end Go.Proofs.YthcdolkpdbbnkaaDoor
