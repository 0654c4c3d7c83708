/-
  The law MsgValid: for every schema, message and value, in every world that holds the table of kinds.
-/
import Derived.Test.YthcdolkpdbbnkaaDoorMsgDuo
namespace Go.Proofs.YthcdolkpdbbnkaaDoor
open Go.RowKit

/-- A schema, a message and a value in the first three blocks that the law makes. -/
def Tri (w : World) (st v : Int) (A : Option Addr) (len cap : Nat) (m : ByteArray) (B : Option Addr) (n c : Nat) (no : Int) (t : ByteArray) (u : World) : Prop :=
  Below w.heap.size w u ∧ Box u w.heap.size st v A len cap ∧ MBox u (w.heap.size + 1) m B n c ∧ u.heap[w.heap.size + 2]? = some (.cells #[.int .i64 no, .string t] 50)
theorem Tri.below {w : World} {st v : Int} {A : Option Addr} {len cap : Nat} {m : ByteArray} {B : Option Addr} {n c : Nat} {no : Int} {t : ByteArray} {u u' : World} (h : Tri w st v A len cap m B n c no t u) (hb : Below u.heap.size u u') : Tri w st v A len cap m B n c no t u' :=
  ⟨hbt h.1 hb, h.2.1.below hb, h.2.2.1.below hb, obj_below h.2.2.2 hb⟩
theorem tri_new (w : World) (st v : Int) (A : Option Addr) (len cap : Nat) (m : ByteArray) (B : Option Addr) (n c : Nat) (no : Int) (t : ByteArray) : Tri w st v A len cap m B n c no t (((w.alloc (.cells #[.int .i64 st, .int .i64 v, .slice A len cap] 24)).alloc (.cells #[.string m, .slice B n c] 27)).alloc (.cells #[.int .i64 no, .string t] 50)) :=
  ⟨hbt (hbt (below_al _ _) (below_al _ _)) (below_al _ _), ((box_new _ _ _ _ _ _).below (below_al _ _)).below (below_al _ _), obj_below (heap_al _ _ _ (by simp)) (below_al _ _), heap_al _ _ _ (by simp)⟩
theorem msgL_first (sl : List Sp) : ∀ (l : List Item) (last : Int), (msgL sl last l).1 = 0 → msgL sl last l = (0, 0)
  | [], _, _ => rfl
  | x :: r, last, h => by
    by_cases hx : fldE sl last x = 0
    · rw [msgL_ok hx] at h ⊢
      exact msgL_first sl r x.1 h
    · rw [msgL_bad hx] at h
      exact absurd h hx
theorem msgN_first {st v : Int} {sl : List Sp} {m : ByteArray} {l : List Item} (h : (msgN st v sl m l).1 = 0) : msgN st v sl m l = (0, 0) := by
  by_cases h1 : (schN st v sl).1 = 0
  · by_cases h2 : mtiV m v = true
    · rw [msgN_list h1 h2] at h ⊢
      exact msgL_first sl l 0 h
    · rw [msgN_mti h1 (by simpa using h2)] at h
      exact absurd h (by decide)
  · rw [msgN_arg h1] at h
    exact absurd h (by decide)
theorem valid_cases {st v : Int} {sl : List Sp} {m : ByteArray} {l : List Item} (hz : msgN st v sl m l = (0, 0)) (no : Int) (t : ByteArray) : ∃ z1 z1' z2 z2', msgN st v sl m (withL no t l) = (z1, z1') ∧ msgN st v sl m [(no, t)] = (z2, z2') ∧ ((z1 = 0 ∧ z1' = 0 ∧ z2 = 0 ∧ z2' = 0) ∨ (z1 ≠ 0 ∧ z2 ≠ 0)) := by
  have hv := valid_with hz no t
  by_cases h1 : (msgN st v sl m (withL no t l)).1 = 0
  · exact ⟨0, 0, 0, 0, msgN_first h1, hv.1 (msgN_first h1), .inl ⟨rfl, rfl, rfl, rfl⟩⟩
  · have h2 : (msgN st v sl m [(no, t)]).1 ≠ 0 := fun e => h1 (by rw [hv.2 (msgN_first e)])
    exact ⟨(msgN st v sl m (withL no t l)).1, (msgN st v sl m (withL no t l)).2, (msgN st v sl m [(no, t)]).1, (msgN st v sl m [(no, t)]).2, rfl, rfl, .inr ⟨h1, h2⟩⟩
theorem with_sizes {l : List Item} {no : Int} {t : ByteArray} (hf : ∀ x ∈ l, x.2.size ≤ maxLen) (ht : t.size ≤ maxLen) : ∀ x ∈ withL no t l, x.2.size ≤ maxLen := fun x hx => by
  rcases ins_mem hx with rfl | hx
  · exact ht
  · exact hf x (out_mem hx).1

set_option maxRecDepth 100000 in
set_option maxHeartbeats 3200000 in
theorem mvalid_long (st v : Int) (A : Option Addr) (len cap : Nat) (m : ByteArray) (B : Option Addr) (n c : Nat) (no : Int) (t : ByteArray) (w : World) (hK : Kinds w) (h : 200 < len) :
    Calls Tryd.prog 7 #[.agg #[.int .i64 st, .int .i64 v, .slice A len cap], .agg #[.string m, .slice B n c], .agg #[.int .i64 no, .string t]] w fun e w' => e = .returned (.bool true) ∧ Below w.heap.size w w' := by
  have tl : decide ((200 : Int) < (len : Int)) = true := by simp; omega
  have HT := Lib.hid (tri_new w st v A len cap m B n c no t)
  have HK := Lib.hid (hK.below HT.out.1)
  clear h hK
  go_enter Tryd.func7, Tryd.ntmps7
  go_wp2_with fail
  generalize ((w.alloc (.cells #[.int .i64 st, .int .i64 v, .slice A len cap] 24)).alloc (.cells #[.string m, .slice B n c] 27)).alloc (.cells #[.int .i64 no, .string t] 50) = U at *
  refine (mawake_any _ HK.out).mono ?_
  rintro e w1 ⟨rfl, hb1⟩
  have HT1 := Lib.hid (HT.out.below hb1)
  have HK1 := Lib.hid (HK.out.below hb1)
  obtain ⟨b0, b1, b2⟩ := obj_cells3 HT1.out.2.1
  clear hb1
  go_wp2_with fail
  refine (mawake_any _ HK1.out).mono ?_
  rintro e w2 ⟨rfl, hb2⟩
  have HB2 := Lib.hid (hbt HT1.out.1 hb2)
  clear hb2 b0 b1 b2
  go_wp2
  go_ret
  exact ⟨rfl, HB2.out⟩
set_option maxRecDepth 100000 in
set_option maxHeartbeats 6400000 in
theorem mvalid_great (st v : Int) (A : Option Addr) (cap : Nat) (sl : List Sp) (m : ByteArray) (B : Option Addr) (c : Nat) (l : List Item) (no : Int) (t : ByteArray) (w : World) (hK : Kinds w) (hI : Spl w A sl) (hL : Tlvs w B l) (hf : ∀ x ∈ l, x.2.size ≤ maxLen) (h : ¬ 200 < sl.length) (hg : greatM m l = true) :
    Calls Tryd.prog 7 #[.agg #[.int .i64 st, .int .i64 v, .slice A sl.length cap], .agg #[.string m, .slice B l.length c], .agg #[.int .i64 no, .string t]] w fun e w' => e = .returned (.bool true) ∧ Below w.heap.size w w' := by
  have tl : decide ((200 : Int) < (sl.length : Int)) = false := by simp; omega
  have HT := Lib.hid (tri_new w st v A sl.length cap m B l.length c no t)
  have HK := Lib.hid (hK.below HT.out.1)
  have HL := Lib.hid (hL.below HT.out.1)
  have HI := Lib.hid (hI.below HT.out.1)
  have HG := Lib.hid (fun W hW => mgreat_any m B c l W hW hf)
  rw [hg] at HG
  clear h hK hL hI hf hg
  generalize sl.length = len at *
  generalize l.length = n at *
  go_enter Tryd.func7, Tryd.ntmps7
  go_wp2_with fail
  generalize ((w.alloc (.cells #[.int .i64 st, .int .i64 v, .slice A len cap] 24)).alloc (.cells #[.string m, .slice B n c] 27)).alloc (.cells #[.int .i64 no, .string t] 50) = U at *
  refine (mawake_any _ HK.out).mono ?_
  rintro e x1 ⟨rfl, hb1⟩
  have HT1 := Lib.hid (HT.out.below hb1)
  have HK1 := Lib.hid (HK.out.below hb1)
  have HL1 := Lib.hid (HL.out.below hb1)
  have HI1 := Lib.hid (HI.out.below hb1)
  obtain ⟨b0, b1, b2⟩ := obj_cells3 HT1.out.2.1
  obtain ⟨b3, b4, _, _⟩ := obj_cells HT1.out.2.2.1
  clear hb1 HT HK HL HI
  go_wp2_with fail
  refine (HG.out _ HL1.out).mono ?_
  rintro e x2 ⟨rfl, hb2⟩
  have HT2 := Lib.hid (HT1.out.below hb2)
  have HK2 := Lib.hid (HK1.out.below hb2)
  have HL2 := Lib.hid (HL1.out.below hb2)
  have HI2 := Lib.hid (HI1.out.below hb2)
  obtain ⟨b0, b1, b2⟩ := obj_cells3 HT2.out.2.1
  obtain ⟨b3, b4, _, _⟩ := obj_cells HT2.out.2.2.1
  obtain ⟨b5, b6, _, _⟩ := obj_cells HT2.out.2.2.2
  clear hb2 HT1 HK1 HL1 HI1
  go_wp2_with fail
  refine (mawake_any _ HK2.out).mono ?_
  rintro e x9 ⟨rfl, hb9⟩
  have HB9 := Lib.hid (hbt HT2.out.1 hb9)
  clear hb9 b0 b1 b2 b3 b4 b5 b6
  go_wp2
  go_ret
  exact ⟨rfl, HB9.out⟩
set_option maxRecDepth 100000 in
set_option maxHeartbeats 6400000 in
theorem mvalid_text (st v : Int) (A : Option Addr) (cap : Nat) (sl : List Sp) (m : ByteArray) (B : Option Addr) (c : Nat) (l : List Item) (no : Int) (t : ByteArray) (w : World) (hK : Kinds w) (hI : Spl w A sl) (hL : Tlvs w B l) (hf : ∀ x ∈ l, x.2.size ≤ maxLen) (ht : t.size ≤ maxLen) (h : ¬ 200 < sl.length) (hg : greatM m l = false) (hh : 1000 < t.size) :
    Calls Tryd.prog 7 #[.agg #[.int .i64 st, .int .i64 v, .slice A sl.length cap], .agg #[.string m, .slice B l.length c], .agg #[.int .i64 no, .string t]] w fun e w' => e = .returned (.bool true) ∧ Below w.heap.size w w' := by
  have tl : decide ((200 : Int) < (sl.length : Int)) = false := by simp; omega
  have HT := Lib.hid (tri_new w st v A sl.length cap m B l.length c no t)
  have HK := Lib.hid (hK.below HT.out.1)
  have HL := Lib.hid (hL.below HT.out.1)
  have HI := Lib.hid (hI.below HT.out.1)
  have HG := Lib.hid (fun W hW => mgreat_any m B c l W hW hf)
  rw [hg] at HG
  unfold maxLen at ht
  have tt : decide ((1000 : Int) < (t.size : Int)) = true := by simp; omega
  clear h hK hL hI hf hg hh
  generalize sl.length = len at *
  generalize l.length = n at *
  go_enter Tryd.func7, Tryd.ntmps7
  go_wp2_with fail
  generalize ((w.alloc (.cells #[.int .i64 st, .int .i64 v, .slice A len cap] 24)).alloc (.cells #[.string m, .slice B n c] 27)).alloc (.cells #[.int .i64 no, .string t] 50) = U at *
  refine (mawake_any _ HK.out).mono ?_
  rintro e x1 ⟨rfl, hb1⟩
  have HT1 := Lib.hid (HT.out.below hb1)
  have HK1 := Lib.hid (HK.out.below hb1)
  have HL1 := Lib.hid (HL.out.below hb1)
  have HI1 := Lib.hid (HI.out.below hb1)
  obtain ⟨b0, b1, b2⟩ := obj_cells3 HT1.out.2.1
  obtain ⟨b3, b4, _, _⟩ := obj_cells HT1.out.2.2.1
  clear hb1 HT HK HL HI
  go_wp2_with fail
  refine (HG.out _ HL1.out).mono ?_
  rintro e x2 ⟨rfl, hb2⟩
  have HT2 := Lib.hid (HT1.out.below hb2)
  have HK2 := Lib.hid (HK1.out.below hb2)
  have HL2 := Lib.hid (HL1.out.below hb2)
  have HI2 := Lib.hid (HI1.out.below hb2)
  obtain ⟨b0, b1, b2⟩ := obj_cells3 HT2.out.2.1
  obtain ⟨b3, b4, _, _⟩ := obj_cells HT2.out.2.2.1
  obtain ⟨b5, b6, _, _⟩ := obj_cells HT2.out.2.2.2
  clear hb2 HT1 HK1 HL1 HI1
  go_wp2_with fail
  refine (mawake_any _ HK2.out).mono ?_
  rintro e x9 ⟨rfl, hb9⟩
  have HB9 := Lib.hid (hbt HT2.out.1 hb9)
  clear hb9 b0 b1 b2 b3 b4 b5 b6
  go_wp2
  go_ret
  exact ⟨rfl, HB9.out⟩
set_option maxRecDepth 100000 in
set_option maxHeartbeats 6400000 in
theorem mvalid_bad (st v : Int) (A : Option Addr) (cap : Nat) (sl : List Sp) (m : ByteArray) (B : Option Addr) (c : Nat) (l : List Item) (no : Int) (t : ByteArray) (w : World) (hK : Kinds w) (hI : Spl w A sl) (hL : Tlvs w B l) (hf : ∀ x ∈ l, x.2.size ≤ maxLen) (h : ¬ 200 < sl.length) (hg : greatM m l = false) (hh : ¬ 1000 < t.size) (hz : (msgN st v sl m l).1 ≠ 0) :
    Calls Tryd.prog 7 #[.agg #[.int .i64 st, .int .i64 v, .slice A sl.length cap], .agg #[.string m, .slice B l.length c], .agg #[.int .i64 no, .string t]] w fun e w' => e = .returned (.bool true) ∧ Below w.heap.size w w' := by
  have tl : decide ((200 : Int) < (sl.length : Int)) = false := by simp; omega
  have HT := Lib.hid (tri_new w st v A sl.length cap m B l.length c no t)
  have HK := Lib.hid (hK.below HT.out.1)
  have HL := Lib.hid (hL.below HT.out.1)
  have HI := Lib.hid (hI.below HT.out.1)
  have HG := Lib.hid (fun W hW => mgreat_any m B c l W hW hf)
  rw [hg] at HG
  have hn : sl.length ≤ 1000 := by omega
  have hl : l.length ≤ 1000 := by have := (great_in hg).2.1; omega
  have tt : decide ((1000 : Int) < (t.size : Int)) = false := by simp; omega
  have HC := Lib.hid (fun W h0 h1 h2 => mcheck_any st v A cap sl m B c l W h0 h1 h2 hn hl hf)
  clear h hK hL hI hf hg hh hn hl
  generalize (msgN st v sl m l).1 = z at *
  generalize (msgN st v sl m l).2 = z' at *
  have tz : (z == 0) = false := by simpa using hz
  clear hz
  generalize sl.length = len at *
  generalize l.length = n at *
  go_enter Tryd.func7, Tryd.ntmps7
  go_wp2_with fail
  generalize ((w.alloc (.cells #[.int .i64 st, .int .i64 v, .slice A len cap] 24)).alloc (.cells #[.string m, .slice B n c] 27)).alloc (.cells #[.int .i64 no, .string t] 50) = U at *
  refine (mawake_any _ HK.out).mono ?_
  rintro e x1 ⟨rfl, hb1⟩
  have HT1 := Lib.hid (HT.out.below hb1)
  have HK1 := Lib.hid (HK.out.below hb1)
  have HL1 := Lib.hid (HL.out.below hb1)
  have HI1 := Lib.hid (HI.out.below hb1)
  obtain ⟨b0, b1, b2⟩ := obj_cells3 HT1.out.2.1
  obtain ⟨b3, b4, _, _⟩ := obj_cells HT1.out.2.2.1
  clear hb1 HT HK HL HI
  go_wp2_with fail
  refine (HG.out _ HL1.out).mono ?_
  rintro e x2 ⟨rfl, hb2⟩
  have HT2 := Lib.hid (HT1.out.below hb2)
  have HK2 := Lib.hid (HK1.out.below hb2)
  have HL2 := Lib.hid (HL1.out.below hb2)
  have HI2 := Lib.hid (HI1.out.below hb2)
  obtain ⟨b0, b1, b2⟩ := obj_cells3 HT2.out.2.1
  obtain ⟨b3, b4, _, _⟩ := obj_cells HT2.out.2.2.1
  obtain ⟨b5, b6, _, _⟩ := obj_cells HT2.out.2.2.2
  clear hb2 HT1 HK1 HL1 HI1
  go_wp2_with fail
  refine (HC.out _ HK2.out HI2.out HL2.out).mono ?_
  rintro e x3 ⟨rfl, hb3⟩
  have HT3 := Lib.hid (HT2.out.below hb3)
  have HK3 := Lib.hid (HK2.out.below hb3)
  have HL3 := Lib.hid (HL2.out.below hb3)
  have HI3 := Lib.hid (HI2.out.below hb3)
  clear hb3 HT2 HK2 HL2 HI2
  go_wp2_with fail
  refine (mawake_any _ HK3.out).mono ?_
  rintro e x9 ⟨rfl, hb9⟩
  have HB9 := Lib.hid (hbt HT3.out.1 hb9)
  clear hb9 b0 b1 b2 b3 b4 b5 b6
  go_wp2
  go_ret
  exact ⟨rfl, HB9.out⟩
set_option maxRecDepth 100000 in
set_option maxHeartbeats 12800000 in
theorem mvalid_good (st v : Int) (A : Option Addr) (cap : Nat) (sl : List Sp) (m : ByteArray) (B : Option Addr) (c : Nat) (l : List Item) (no : Int) (t : ByteArray) (w : World) (hK : Kinds w) (hI : Spl w A sl) (hL : Tlvs w B l) (hf : ∀ x ∈ l, x.2.size ≤ maxLen) (ht : t.size ≤ maxLen) (h : ¬ 200 < sl.length) (hm : m.size ≤ maxLen) (hg : greatM m l = false) (hh : ¬ 1000 < t.size) (hz : msgN st v sl m l = (0, 0)) :
    Calls Tryd.prog 7 #[.agg #[.int .i64 st, .int .i64 v, .slice A sl.length cap], .agg #[.string m, .slice B l.length c], .agg #[.int .i64 no, .string t]] w fun e w' => e = .returned (.bool true) ∧ Below w.heap.size w w' := by
  have tl : decide ((200 : Int) < (sl.length : Int)) = false := by simp; omega
  have HT := Lib.hid (tri_new w st v A sl.length cap m B l.length c no t)
  have HK := Lib.hid (hK.below HT.out.1)
  have HL := Lib.hid (hL.below HT.out.1)
  have HI := Lib.hid (hI.below HT.out.1)
  have HG := Lib.hid (fun W hW => mgreat_any m B c l W hW hf)
  rw [hg] at HG
  have hn : sl.length ≤ 1000 := by omega
  have hl : l.length ≤ 999 := by have := (great_in hg).2.1; omega
  have hwl : (withL no t l).length ≤ 1000 := by have := with_length no t l; omega
  have hol : (outL no l).length ≤ 1000 := by have := out_length no l; omega
  have tt : decide ((1000 : Int) < (t.size : Int)) = false := by simp; omega
  have HC := Lib.hid (fun W h0 h1 h2 => mcheck_any st v A cap sl m B c l W h0 h1 h2 hn (by omega) hf)
  rw [hz] at HC
  have HCO := Lib.hid (fun B' d' W h0 h1 h2 => mcheck_any st v A cap sl m B' d' (outL no l) W h0 h1 h2 hn hol (fun x hx => hf x (out_mem hx).1))
  rw [valid_out hz no] at HCO
  have HCW := Lib.hid (fun B' d' W h0 h1 h2 => mcheck_any st v A cap sl m B' d' (withL no t l) W h0 h1 h2 hn hwl (with_sizes hf ht))
  have HR := Lib.hid (fun B' d' W h1 h2 => mrcheck_any st v A cap sl m B' d' [(no, t)] W h1 h2 hn (by simp) (by simpa using ht) hm)
  have HVW := Lib.hid (valid_cases hz no t)
  have HWI : Hid (∀ W, Tlvs W B l → Calls Tryd.prog 20 #[.agg #[.string m, .slice B l.length c], .int .i64 no, .string t] W fun e w' => ∃ x, e = .returned x ∧ ∃ B' d, x = .agg #[.string m, .slice B' (withL no t l).length d] ∧ Tlvs w' B' (withL no t l) ∧ Below W.heap.size W w') := fun W hW => (mwith_any m B c l no t W hW hl).mono fun e w' ⟨A', c', he, ht, hb⟩ => ⟨_, he, A', c', rfl, ht, hb⟩
  have HWO : Hid (∀ W, Tlvs W B l → Calls Tryd.prog 21 #[.agg #[.string m, .slice B l.length c], .int .i64 no] W fun e w' => ∃ x, e = .returned x ∧ ∃ B' d, x = .agg #[.string m, .slice B' (outL no l).length d] ∧ Tlvs w' B' (outL no l) ∧ Below W.heap.size W w') := fun W hW => (mwithout_any m B c l no W hW (by omega)).mono fun e w' ⟨A', c', he, ht, hb⟩ => ⟨_, he, A', c', rfl, ht, hb⟩
  clear h hK hL hI hf hg hh ht hn hl hwl hol hz hm
  obtain ⟨z1, z1', z2, z2', e1, e2, hcase⟩ := HVW.out
  rw [e1] at HCW
  rw [e2] at HR
  clear e1 e2 HVW
  dsimp only at HCW HR HC HCO
  generalize withL no t l = WL at *
  generalize outL no l = OL at *
  generalize WL.length = wn at *
  generalize OL.length = on at *
  generalize sl.length = len at *
  generalize l.length = n at *
  go_enter Tryd.func7, Tryd.ntmps7
  go_wp2_with fail
  generalize ((w.alloc (.cells #[.int .i64 st, .int .i64 v, .slice A len cap] 24)).alloc (.cells #[.string m, .slice B n c] 27)).alloc (.cells #[.int .i64 no, .string t] 50) = U at *
  refine (mawake_any _ HK.out).mono ?_
  rintro e x1 ⟨rfl, hb1⟩
  have HT1 := Lib.hid (HT.out.below hb1)
  have HK1 := Lib.hid (HK.out.below hb1)
  have HL1 := Lib.hid (HL.out.below hb1)
  have HI1 := Lib.hid (HI.out.below hb1)
  obtain ⟨b0, b1, b2⟩ := obj_cells3 HT1.out.2.1
  obtain ⟨b3, b4, _, _⟩ := obj_cells HT1.out.2.2.1
  clear hb1 HT HK HL HI
  go_wp2_with fail
  refine (HG.out _ HL1.out).mono ?_
  rintro e x2 ⟨rfl, hb2⟩
  have HT2 := Lib.hid (HT1.out.below hb2)
  have HK2 := Lib.hid (HK1.out.below hb2)
  have HL2 := Lib.hid (HL1.out.below hb2)
  have HI2 := Lib.hid (HI1.out.below hb2)
  obtain ⟨b0, b1, b2⟩ := obj_cells3 HT2.out.2.1
  obtain ⟨b3, b4, _, _⟩ := obj_cells HT2.out.2.2.1
  obtain ⟨b5, b6, _, _⟩ := obj_cells HT2.out.2.2.2
  clear hb2 HT1 HK1 HL1 HI1
  go_wp2_with fail
  refine (HC.out _ HK2.out HI2.out HL2.out).mono ?_
  rintro e x3 ⟨rfl, hb3⟩
  have HT3 := Lib.hid (HT2.out.below hb3)
  have HK3 := Lib.hid (HK2.out.below hb3)
  have HL3 := Lib.hid (HL2.out.below hb3)
  have HI3 := Lib.hid (HI2.out.below hb3)
  clear hb3 HT2 HK2 HL2 HI2
  clear b0 b1 b2 b3 b4 b5 b6
  go_wp2_with fail
  refine wp_region_noPanic ?_
  refine wp_region_held_drew (S := (fun u => Below x3.heap.size x3 u)) (by kernel_rfl) ((Below.refl _ _).drew) (fun hS => ?_)
  refine give_val (i := 0) (v := ?_) rfl (by kernel_rfl) (by kernel_rfl) (by kernel_rfl) (fun _ _ _ h => h) (by rfl) (fun u hu => ?_) hS ?_
  rotate_left
  · ((have hT := HT3.out.below hu; obtain ⟨b0, b1, b2⟩ := obj_cells3 hT.2.1; obtain ⟨b3, b4, _, _⟩ := obj_cells hT.2.2.1; obtain ⟨b5, b6, _, _⟩ := obj_cells hT.2.2.2; clear hT); go_simp; try (with_reducible rfl))
  try simp only [Act.put, List.setIfInBounds_toArray, List.set_cons_zero, List.set_cons_succ]
  refine give_val (i := 1) (v := ?_) rfl (by kernel_rfl) (by kernel_rfl) (by kernel_rfl) (fun _ _ _ h => h) (by rfl) (fun u hu => ?_) hS ?_
  rotate_left
  · ((have hT := HT3.out.below hu; obtain ⟨b0, b1, b2⟩ := obj_cells3 hT.2.1; obtain ⟨b3, b4, _, _⟩ := obj_cells hT.2.2.1; obtain ⟨b5, b6, _, _⟩ := obj_cells hT.2.2.2; clear hT); go_simp; try (with_reducible rfl))
  try simp only [Act.put, List.setIfInBounds_toArray, List.set_cons_zero, List.set_cons_succ]
  refine give_val (i := 2) (v := ?_) rfl (by kernel_rfl) (by kernel_rfl) (by kernel_rfl) (fun _ _ _ h => h) (by rfl) (fun u hu => ?_) hS ?_
  rotate_left
  · ((have hT := HT3.out.below hu; obtain ⟨b0, b1, b2⟩ := obj_cells3 hT.2.1; obtain ⟨b3, b4, _, _⟩ := obj_cells hT.2.2.1; obtain ⟨b5, b6, _, _⟩ := obj_cells hT.2.2.2; clear hT); go_simp; try (with_reducible rfl))
  try simp only [Act.put, List.setIfInBounds_toArray, List.set_cons_zero, List.set_cons_succ]
  refine give_val (i := 3) (v := ?_) rfl (by kernel_rfl) (by kernel_rfl) (by kernel_rfl) (fun _ _ _ h => h) (by rfl) (fun u hu => ?_) hS ?_
  rotate_left
  · ((have hT := HT3.out.below hu; obtain ⟨b0, b1, b2⟩ := obj_cells3 hT.2.1; obtain ⟨b3, b4, _, _⟩ := obj_cells hT.2.2.1; obtain ⟨b5, b6, _, _⟩ := obj_cells hT.2.2.2; clear hT); go_simp; try (with_reducible rfl))
  try simp only [Act.put, List.setIfInBounds_toArray, List.set_cons_zero, List.set_cons_succ]
  refine give_val (i := 6) (v := ?_) rfl (by kernel_rfl) (by kernel_rfl) (by kernel_rfl) (fun _ _ _ h => h) (by rfl) (fun u hu => ?_) hS ?_
  rotate_left
  · ((have hT := HT3.out.below hu; obtain ⟨b0, b1, b2⟩ := obj_cells3 hT.2.1; obtain ⟨b3, b4, _, _⟩ := obj_cells hT.2.2.1; obtain ⟨b5, b6, _, _⟩ := obj_cells hT.2.2.2; clear hT); go_simp; try (with_reducible rfl))
  try simp only [Act.put, List.setIfInBounds_toArray, List.set_cons_zero, List.set_cons_succ]
  refine only_some (i := 4) 21 #[.agg #[.string m, .slice B n c], .int .i64 no] rfl (by kernel_rfl) (by rfl) ((HWO.out _ (HL3.out.below hS))) ?_ ?_
  · (go_simp; try (with_reducible rfl))
  intro v4 w4 hT
  obtain ⟨A4, c4, rfl, ht4, hb4⟩ := hT
  have hS' := hbt hS hb4
  refine ⟨hS', ?_⟩
  clear hS
  have hS := hS'; clear hS'
  try simp only [Act.put, List.setIfInBounds_toArray, List.set_cons_zero, List.set_cons_succ]
  refine only_call (i := 5) 10 #[.agg #[.int .i64 st, .int .i64 v, .slice A len cap], .agg #[.string m, .slice A4 on c4]] rfl (by kernel_rfl) (by rfl) ((HCO.out A4 c4 _ (HK3.out.below hS) (HI3.out.below hS) ht4).mono fun e w' he => ⟨he.1, hbt hS he.2⟩) ?_ ?_
  · (go_simp; try (with_reducible rfl))
  clear hS
  intro w5 hS
  try simp only [Act.put, List.setIfInBounds_toArray, List.set_cons_zero, List.set_cons_succ]
  refine give_val (i := 7) (v := ?_) rfl (by kernel_rfl) (by kernel_rfl) (by kernel_rfl) (fun _ _ _ h => h) (by rfl) (fun u hu => ?_) hS ?_
  rotate_left
  · ((have hT := HT3.out.below hu; obtain ⟨b0, b1, b2⟩ := obj_cells3 hT.2.1; obtain ⟨b3, b4, _, _⟩ := obj_cells hT.2.2.1; obtain ⟨b5, b6, _, _⟩ := obj_cells hT.2.2.2; clear hT); go_simp; try (with_reducible rfl))
  try simp only [Act.put, List.setIfInBounds_toArray, List.set_cons_zero, List.set_cons_succ]
  refine wpAnyH_done (by kernel_rfl) (NoPanic.normal ?_) _
  rename World => x4
  have HT4 := Lib.hid (HT3.out.below hS)
  have HK4 := Lib.hid (HK3.out.below hS)
  have HL4 := Lib.hid (HL3.out.below hS)
  have HI4 := Lib.hid (HI3.out.below hS)
  clear hS ht4 hb4 HT3 HK3 HL3 HI3
  obtain ⟨b0, b1, b2⟩ := obj_cells3 HT4.out.2.1
  obtain ⟨b3, b4, _, _⟩ := obj_cells HT4.out.2.2.1
  obtain ⟨b5, b6, _, _⟩ := obj_cells HT4.out.2.2.2
  have HX5 := Lib.hid (below_al x4 (.cells #[.int .i64 no, .string t] 50))
  have HV5 : Hid (Tlvs (x4.alloc (.cells #[.int .i64 no, .string t] 50)) (some ⟨x4.heap.size, 0, none⟩) [(no, t)]) := vals_row (heap_alloc_new _ _) rfl
  go_wp2_with fail
  refine (HR.out (some ⟨x4.heap.size, 0, none⟩) 1 _ (HI4.out.below HX5.out) HV5.out).mono ?_
  rintro e x5 ⟨rfl, hb5⟩
  have HB5 := Lib.hid (hbt (hbt HX5.out hb5) (below_al x5 (.cells #[.int .i64 z2, .int .i64 z2'] 32)))
  have HT5 := Lib.hid (HT4.out.below HB5.out)
  have HK5 := Lib.hid (HK4.out.below HB5.out)
  have HL5 := Lib.hid (HL4.out.below HB5.out)
  have HI5 := Lib.hid (HI4.out.below HB5.out)
  have HF5 := Lib.hid (heap_alloc_new x5 (.cells #[.int .i64 z2, .int .i64 z2'] 32))
  clear hb5 b0 b1 b2 b3 b4 b5 b6 HX5 HV5 HB5 HT4 HK4 HL4 HI4
  go_wp2_with fail
  generalize x5.alloc (.cells #[.int .i64 z2, .int .i64 z2'] 32) = X5 at *
  generalize x5.heap.size = gf at *
  rcases hcase with ⟨rfl, rfl, rfl, rfl⟩ | ⟨hz1, hz2⟩
  · skip
    refine wp_region_noPanic ?_
    refine wp_region_held_drew (S := (fun u => Below X5.heap.size X5 u)) (by kernel_rfl) ((Below.refl _ _).drew) (fun hS => ?_)
    refine give_val (i := 0) (v := ?_) rfl (by kernel_rfl) (by kernel_rfl) (by kernel_rfl) (fun _ _ _ h => h) (by rfl) (fun u hu => ?_) hS ?_
    rotate_left
    · ((have hT := HT5.out.below hu; have hF := obj_below HF5.out hu; obtain ⟨b0, b1, b2⟩ := obj_cells3 hT.2.1; obtain ⟨b3, b4, _, _⟩ := obj_cells hT.2.2.1; obtain ⟨b5, b6, _, _⟩ := obj_cells hT.2.2.2; obtain ⟨b7, b8, _, _⟩ := obj_cells hF; clear hT hF); go_simp; try (with_reducible rfl))
    try simp only [Act.put, List.setIfInBounds_toArray, List.set_cons_zero, List.set_cons_succ]
    refine give_val (i := 1) (v := ?_) rfl (by kernel_rfl) (by kernel_rfl) (by kernel_rfl) (fun _ _ _ h => h) (by rfl) (fun u hu => ?_) hS ?_
    rotate_left
    · ((have hT := HT5.out.below hu; have hF := obj_below HF5.out hu; obtain ⟨b0, b1, b2⟩ := obj_cells3 hT.2.1; obtain ⟨b3, b4, _, _⟩ := obj_cells hT.2.2.1; obtain ⟨b5, b6, _, _⟩ := obj_cells hT.2.2.2; obtain ⟨b7, b8, _, _⟩ := obj_cells hF; clear hT hF); go_simp; try (with_reducible rfl))
    try simp only [Act.put, List.setIfInBounds_toArray, List.set_cons_zero, List.set_cons_succ]
    refine give_val (i := 2) (v := ?_) rfl (by kernel_rfl) (by kernel_rfl) (by kernel_rfl) (fun _ _ _ h => h) (by rfl) (fun u hu => ?_) hS ?_
    rotate_left
    · ((have hT := HT5.out.below hu; have hF := obj_below HF5.out hu; obtain ⟨b0, b1, b2⟩ := obj_cells3 hT.2.1; obtain ⟨b3, b4, _, _⟩ := obj_cells hT.2.2.1; obtain ⟨b5, b6, _, _⟩ := obj_cells hT.2.2.2; obtain ⟨b7, b8, _, _⟩ := obj_cells hF; clear hT hF); go_simp; try (with_reducible rfl))
    try simp only [Act.put, List.setIfInBounds_toArray, List.set_cons_zero, List.set_cons_succ]
    refine give_val (i := 3) (v := ?_) rfl (by kernel_rfl) (by kernel_rfl) (by kernel_rfl) (fun _ _ _ h => h) (by rfl) (fun u hu => ?_) hS ?_
    rotate_left
    · ((have hT := HT5.out.below hu; have hF := obj_below HF5.out hu; obtain ⟨b0, b1, b2⟩ := obj_cells3 hT.2.1; obtain ⟨b3, b4, _, _⟩ := obj_cells hT.2.2.1; obtain ⟨b5, b6, _, _⟩ := obj_cells hT.2.2.2; obtain ⟨b7, b8, _, _⟩ := obj_cells hF; clear hT hF); go_simp; try (with_reducible rfl))
    try simp only [Act.put, List.setIfInBounds_toArray, List.set_cons_zero, List.set_cons_succ]
    refine give_val (i := 4) (v := ?_) rfl (by kernel_rfl) (by kernel_rfl) (by kernel_rfl) (fun _ _ _ h => h) (by rfl) (fun u hu => ?_) hS ?_
    rotate_left
    · ((have hT := HT5.out.below hu; have hF := obj_below HF5.out hu; obtain ⟨b0, b1, b2⟩ := obj_cells3 hT.2.1; obtain ⟨b3, b4, _, _⟩ := obj_cells hT.2.2.1; obtain ⟨b5, b6, _, _⟩ := obj_cells hT.2.2.2; obtain ⟨b7, b8, _, _⟩ := obj_cells hF; clear hT hF); go_simp; try (with_reducible rfl))
    try simp only [Act.put, List.setIfInBounds_toArray, List.set_cons_zero, List.set_cons_succ]
    refine give_val (i := 5) (v := ?_) rfl (by kernel_rfl) (by kernel_rfl) (by kernel_rfl) (fun _ _ _ h => h) (by rfl) (fun u hu => ?_) hS ?_
    rotate_left
    · ((have hT := HT5.out.below hu; have hF := obj_below HF5.out hu; obtain ⟨b0, b1, b2⟩ := obj_cells3 hT.2.1; obtain ⟨b3, b4, _, _⟩ := obj_cells hT.2.2.1; obtain ⟨b5, b6, _, _⟩ := obj_cells hT.2.2.2; obtain ⟨b7, b8, _, _⟩ := obj_cells hF; clear hT hF); go_simp; try (with_reducible rfl))
    try simp only [Act.put, List.setIfInBounds_toArray, List.set_cons_zero, List.set_cons_succ]
    refine give_val (i := 8) (v := ?_) rfl (by kernel_rfl) (by kernel_rfl) (by kernel_rfl) (fun _ _ _ h => h) (by rfl) (fun u hu => ?_) hS ?_
    rotate_left
    · ((have hT := HT5.out.below hu; have hF := obj_below HF5.out hu; obtain ⟨b0, b1, b2⟩ := obj_cells3 hT.2.1; obtain ⟨b3, b4, _, _⟩ := obj_cells hT.2.2.1; obtain ⟨b5, b6, _, _⟩ := obj_cells hT.2.2.2; obtain ⟨b7, b8, _, _⟩ := obj_cells hF; clear hT hF); go_simp; try (with_reducible rfl))
    try simp only [Act.put, List.setIfInBounds_toArray, List.set_cons_zero, List.set_cons_succ]
    refine give_val (i := 10) (v := ?_) rfl (by kernel_rfl) (by kernel_rfl) (by kernel_rfl) (fun _ _ _ h => h) (by rfl) (fun u hu => ?_) hS ?_
    rotate_left
    · ((have hT := HT5.out.below hu; have hF := obj_below HF5.out hu; obtain ⟨b0, b1, b2⟩ := obj_cells3 hT.2.1; obtain ⟨b3, b4, _, _⟩ := obj_cells hT.2.2.1; obtain ⟨b5, b6, _, _⟩ := obj_cells hT.2.2.2; obtain ⟨b7, b8, _, _⟩ := obj_cells hF; clear hT hF); go_simp; try (with_reducible rfl))
    try simp only [Act.put, List.setIfInBounds_toArray, List.set_cons_zero, List.set_cons_succ]
    refine give_val (i := 11) (v := ?_) rfl (by kernel_rfl) (by kernel_rfl) (by kernel_rfl) (fun _ _ _ h => h) (by rfl) (fun u hu => ?_) hS ?_
    rotate_left
    · ((have hT := HT5.out.below hu; have hF := obj_below HF5.out hu; obtain ⟨b0, b1, b2⟩ := obj_cells3 hT.2.1; obtain ⟨b3, b4, _, _⟩ := obj_cells hT.2.2.1; obtain ⟨b5, b6, _, _⟩ := obj_cells hT.2.2.2; obtain ⟨b7, b8, _, _⟩ := obj_cells hF; clear hT hF); go_simp; try (with_reducible rfl))
    try simp only [Act.put, List.setIfInBounds_toArray, List.set_cons_zero, List.set_cons_succ]
    refine give_val (i := 12) (v := ?_) rfl (by kernel_rfl) (by kernel_rfl) (by kernel_rfl) (fun _ _ _ h => h) (by rfl) (fun u hu => ?_) hS ?_
    rotate_left
    · ((have hT := HT5.out.below hu; have hF := obj_below HF5.out hu; obtain ⟨b0, b1, b2⟩ := obj_cells3 hT.2.1; obtain ⟨b3, b4, _, _⟩ := obj_cells hT.2.2.1; obtain ⟨b5, b6, _, _⟩ := obj_cells hT.2.2.2; obtain ⟨b7, b8, _, _⟩ := obj_cells hF; clear hT hF); go_simp; try (with_reducible rfl))
    try simp only [Act.put, List.setIfInBounds_toArray, List.set_cons_zero, List.set_cons_succ]
    refine only_some (i := 6) 20 #[.agg #[.string m, .slice B n c], .int .i64 no, .string t] rfl (by kernel_rfl) (by rfl) ((HWI.out _ (HL5.out.below hS))) ?_ ?_
    · (go_simp; try (with_reducible rfl))
    intro v6 w6 hT
    obtain ⟨A6, c6, rfl, ht6, hb6⟩ := hT
    have hS' := hbt hS hb6
    refine ⟨hS', ?_⟩
    clear hS
    have hS := hS'; clear hS'
    try simp only [Act.put, List.setIfInBounds_toArray, List.set_cons_zero, List.set_cons_succ]
    refine only_call (i := 7) 10 #[.agg #[.int .i64 st, .int .i64 v, .slice A len cap], .agg #[.string m, .slice A6 wn c6]] rfl (by kernel_rfl) (by rfl) ((HCW.out A6 c6 _ (HK5.out.below hS) (HI5.out.below hS) ht6).mono fun e w' he => ⟨he.1, hbt hS he.2⟩) ?_ ?_
    · (go_simp; try (with_reducible rfl))
    clear hS
    intro w7 hS
    try simp only [Act.put, List.setIfInBounds_toArray, List.set_cons_zero, List.set_cons_succ]
    refine give_val (i := 9) (v := ?_) rfl (by kernel_rfl) (by kernel_rfl) (by kernel_rfl) (fun _ _ _ h => h) (by rfl) (fun u hu => ?_) hS ?_
    rotate_left
    · ((have hT := HT5.out.below hu; have hF := obj_below HF5.out hu; obtain ⟨b0, b1, b2⟩ := obj_cells3 hT.2.1; obtain ⟨b3, b4, _, _⟩ := obj_cells hT.2.2.1; obtain ⟨b5, b6, _, _⟩ := obj_cells hT.2.2.2; obtain ⟨b7, b8, _, _⟩ := obj_cells hF; clear hT hF); go_simp; try (with_reducible rfl))
    try simp only [Act.put, List.setIfInBounds_toArray, List.set_cons_zero, List.set_cons_succ]
    refine give_val (i := 13) (v := ?_) rfl (by kernel_rfl) (by kernel_rfl) (by kernel_rfl) (fun _ _ _ h => h) (by rfl) (fun u hu => ?_) hS ?_
    rotate_left
    · ((have hT := HT5.out.below hu; have hF := obj_below HF5.out hu; obtain ⟨b0, b1, b2⟩ := obj_cells3 hT.2.1; obtain ⟨b3, b4, _, _⟩ := obj_cells hT.2.2.1; obtain ⟨b5, b6, _, _⟩ := obj_cells hT.2.2.2; obtain ⟨b7, b8, _, _⟩ := obj_cells hF; clear hT hF); go_simp; try (with_reducible rfl))
    try simp only [Act.put, List.setIfInBounds_toArray, List.set_cons_zero, List.set_cons_succ]
    refine give_val (i := 14) (v := ?_) rfl (by kernel_rfl) (by kernel_rfl) (by kernel_rfl) (fun _ _ _ h => h) (by rfl) (fun u hu => ?_) hS ?_
    rotate_left
    · ((have hT := HT5.out.below hu; have hF := obj_below HF5.out hu; obtain ⟨b0, b1, b2⟩ := obj_cells3 hT.2.1; obtain ⟨b3, b4, _, _⟩ := obj_cells hT.2.2.1; obtain ⟨b5, b6, _, _⟩ := obj_cells hT.2.2.2; obtain ⟨b7, b8, _, _⟩ := obj_cells hF; clear hT hF); go_simp; try (with_reducible rfl))
    try simp only [Act.put, List.setIfInBounds_toArray, List.set_cons_zero, List.set_cons_succ]
    refine wpAnyH_done (by kernel_rfl) (NoPanic.normal ?_) _
    go_wp2
    go_ret
    exact ⟨rfl, hbt HT5.out.1 hS⟩
  · skip
    refine wp_region_noPanic ?_
    refine wp_region_held_drew (S := (fun u => Below X5.heap.size X5 u)) (by kernel_rfl) ((Below.refl _ _).drew) (fun hS => ?_)
    refine give_val (i := 0) (v := ?_) rfl (by kernel_rfl) (by kernel_rfl) (by kernel_rfl) (fun _ _ _ h => h) (by rfl) (fun u hu => ?_) hS ?_
    rotate_left
    · ((have hT := HT5.out.below hu; have hF := obj_below HF5.out hu; obtain ⟨b0, b1, b2⟩ := obj_cells3 hT.2.1; obtain ⟨b3, b4, _, _⟩ := obj_cells hT.2.2.1; obtain ⟨b5, b6, _, _⟩ := obj_cells hT.2.2.2; obtain ⟨b7, b8, _, _⟩ := obj_cells hF; clear hT hF); go_simp; try (with_reducible rfl))
    try simp only [Act.put, List.setIfInBounds_toArray, List.set_cons_zero, List.set_cons_succ]
    refine give_val (i := 1) (v := ?_) rfl (by kernel_rfl) (by kernel_rfl) (by kernel_rfl) (fun _ _ _ h => h) (by rfl) (fun u hu => ?_) hS ?_
    rotate_left
    · ((have hT := HT5.out.below hu; have hF := obj_below HF5.out hu; obtain ⟨b0, b1, b2⟩ := obj_cells3 hT.2.1; obtain ⟨b3, b4, _, _⟩ := obj_cells hT.2.2.1; obtain ⟨b5, b6, _, _⟩ := obj_cells hT.2.2.2; obtain ⟨b7, b8, _, _⟩ := obj_cells hF; clear hT hF); go_simp; try (with_reducible rfl))
    try simp only [Act.put, List.setIfInBounds_toArray, List.set_cons_zero, List.set_cons_succ]
    refine give_val (i := 2) (v := ?_) rfl (by kernel_rfl) (by kernel_rfl) (by kernel_rfl) (fun _ _ _ h => h) (by rfl) (fun u hu => ?_) hS ?_
    rotate_left
    · ((have hT := HT5.out.below hu; have hF := obj_below HF5.out hu; obtain ⟨b0, b1, b2⟩ := obj_cells3 hT.2.1; obtain ⟨b3, b4, _, _⟩ := obj_cells hT.2.2.1; obtain ⟨b5, b6, _, _⟩ := obj_cells hT.2.2.2; obtain ⟨b7, b8, _, _⟩ := obj_cells hF; clear hT hF); go_simp; try (with_reducible rfl))
    try simp only [Act.put, List.setIfInBounds_toArray, List.set_cons_zero, List.set_cons_succ]
    refine give_val (i := 3) (v := ?_) rfl (by kernel_rfl) (by kernel_rfl) (by kernel_rfl) (fun _ _ _ h => h) (by rfl) (fun u hu => ?_) hS ?_
    rotate_left
    · ((have hT := HT5.out.below hu; have hF := obj_below HF5.out hu; obtain ⟨b0, b1, b2⟩ := obj_cells3 hT.2.1; obtain ⟨b3, b4, _, _⟩ := obj_cells hT.2.2.1; obtain ⟨b5, b6, _, _⟩ := obj_cells hT.2.2.2; obtain ⟨b7, b8, _, _⟩ := obj_cells hF; clear hT hF); go_simp; try (with_reducible rfl))
    try simp only [Act.put, List.setIfInBounds_toArray, List.set_cons_zero, List.set_cons_succ]
    refine give_val (i := 4) (v := ?_) rfl (by kernel_rfl) (by kernel_rfl) (by kernel_rfl) (fun _ _ _ h => h) (by rfl) (fun u hu => ?_) hS ?_
    rotate_left
    · ((have hT := HT5.out.below hu; have hF := obj_below HF5.out hu; obtain ⟨b0, b1, b2⟩ := obj_cells3 hT.2.1; obtain ⟨b3, b4, _, _⟩ := obj_cells hT.2.2.1; obtain ⟨b5, b6, _, _⟩ := obj_cells hT.2.2.2; obtain ⟨b7, b8, _, _⟩ := obj_cells hF; clear hT hF); go_simp; try (with_reducible rfl))
    try simp only [Act.put, List.setIfInBounds_toArray, List.set_cons_zero, List.set_cons_succ]
    refine give_val (i := 5) (v := ?_) rfl (by kernel_rfl) (by kernel_rfl) (by kernel_rfl) (fun _ _ _ h => h) (by rfl) (fun u hu => ?_) hS ?_
    rotate_left
    · ((have hT := HT5.out.below hu; have hF := obj_below HF5.out hu; obtain ⟨b0, b1, b2⟩ := obj_cells3 hT.2.1; obtain ⟨b3, b4, _, _⟩ := obj_cells hT.2.2.1; obtain ⟨b5, b6, _, _⟩ := obj_cells hT.2.2.2; obtain ⟨b7, b8, _, _⟩ := obj_cells hF; clear hT hF); go_simp; try (with_reducible rfl))
    try simp only [Act.put, List.setIfInBounds_toArray, List.set_cons_zero, List.set_cons_succ]
    refine give_val (i := 8) (v := ?_) rfl (by kernel_rfl) (by kernel_rfl) (by kernel_rfl) (fun _ _ _ h => h) (by rfl) (fun u hu => ?_) hS ?_
    rotate_left
    · ((have hT := HT5.out.below hu; have hF := obj_below HF5.out hu; obtain ⟨b0, b1, b2⟩ := obj_cells3 hT.2.1; obtain ⟨b3, b4, _, _⟩ := obj_cells hT.2.2.1; obtain ⟨b5, b6, _, _⟩ := obj_cells hT.2.2.2; obtain ⟨b7, b8, _, _⟩ := obj_cells hF; clear hT hF); go_simp; try (with_reducible rfl))
    try simp only [Act.put, List.setIfInBounds_toArray, List.set_cons_zero, List.set_cons_succ]
    refine give_val (i := 10) (v := ?_) rfl (by kernel_rfl) (by kernel_rfl) (by kernel_rfl) (fun _ _ _ h => h) (by rfl) (fun u hu => ?_) hS ?_
    rotate_left
    · ((have hT := HT5.out.below hu; have hF := obj_below HF5.out hu; obtain ⟨b0, b1, b2⟩ := obj_cells3 hT.2.1; obtain ⟨b3, b4, _, _⟩ := obj_cells hT.2.2.1; obtain ⟨b5, b6, _, _⟩ := obj_cells hT.2.2.2; obtain ⟨b7, b8, _, _⟩ := obj_cells hF; clear hT hF); go_simp; try (with_reducible rfl))
    try simp only [Act.put, List.setIfInBounds_toArray, List.set_cons_zero, List.set_cons_succ]
    refine give_val (i := 11) (v := ?_) rfl (by kernel_rfl) (by kernel_rfl) (by kernel_rfl) (fun _ _ _ h => h) (by rfl) (fun u hu => ?_) hS ?_
    rotate_left
    · ((have hT := HT5.out.below hu; have hF := obj_below HF5.out hu; obtain ⟨b0, b1, b2⟩ := obj_cells3 hT.2.1; obtain ⟨b3, b4, _, _⟩ := obj_cells hT.2.2.1; obtain ⟨b5, b6, _, _⟩ := obj_cells hT.2.2.2; obtain ⟨b7, b8, _, _⟩ := obj_cells hF; clear hT hF); go_simp; try (with_reducible rfl))
    try simp only [Act.put, List.setIfInBounds_toArray, List.set_cons_zero, List.set_cons_succ]
    refine give_val (i := 12) (v := (.bool false)) rfl (by kernel_rfl) (by kernel_rfl) (by kernel_rfl) (fun _ _ _ h => h) (by rfl) (fun u hu => ?_) hS ?_
    · ((have hT := HT5.out.below hu; have hF := obj_below HF5.out hu; obtain ⟨b0, b1, b2⟩ := obj_cells3 hT.2.1; obtain ⟨b3, b4, _, _⟩ := obj_cells hT.2.2.1; obtain ⟨b5, b6, _, _⟩ := obj_cells hT.2.2.2; obtain ⟨b7, b8, _, _⟩ := obj_cells hF; clear hT hF); go_simp; (try exact fun e1 => absurd e1 hz2))
    try simp only [Act.put, List.setIfInBounds_toArray, List.set_cons_zero, List.set_cons_succ]
    refine only_some (i := 6) 20 #[.agg #[.string m, .slice B n c], .int .i64 no, .string t] rfl (by kernel_rfl) (by rfl) ((HWI.out _ (HL5.out.below hS))) ?_ ?_
    · (go_simp; try (with_reducible rfl))
    intro v6 w6 hT
    obtain ⟨A6, c6, rfl, ht6, hb6⟩ := hT
    have hS' := hbt hS hb6
    refine ⟨hS', ?_⟩
    clear hS
    have hS := hS'; clear hS'
    try simp only [Act.put, List.setIfInBounds_toArray, List.set_cons_zero, List.set_cons_succ]
    refine only_call (i := 7) 10 #[.agg #[.int .i64 st, .int .i64 v, .slice A len cap], .agg #[.string m, .slice A6 wn c6]] rfl (by kernel_rfl) (by rfl) ((HCW.out A6 c6 _ (HK5.out.below hS) (HI5.out.below hS) ht6).mono fun e w' he => ⟨he.1, hbt hS he.2⟩) ?_ ?_
    · (go_simp; try (with_reducible rfl))
    clear hS
    intro w7 hS
    try simp only [Act.put, List.setIfInBounds_toArray, List.set_cons_zero, List.set_cons_succ]
    refine give_val (i := 9) (v := (.bool false)) rfl (by kernel_rfl) (by kernel_rfl) (by kernel_rfl) (fun _ _ _ h => h) (by rfl) (fun u hu => ?_) hS ?_
    · ((have hT := HT5.out.below hu; have hF := obj_below HF5.out hu; obtain ⟨b0, b1, b2⟩ := obj_cells3 hT.2.1; obtain ⟨b3, b4, _, _⟩ := obj_cells hT.2.2.1; obtain ⟨b5, b6, _, _⟩ := obj_cells hT.2.2.2; obtain ⟨b7, b8, _, _⟩ := obj_cells hF; clear hT hF); go_simp; (try exact fun e1 => absurd e1 hz1))
    try simp only [Act.put, List.setIfInBounds_toArray, List.set_cons_zero, List.set_cons_succ]
    refine give_val (i := 13) (v := ?_) rfl (by kernel_rfl) (by kernel_rfl) (by kernel_rfl) (fun _ _ _ h => h) (by rfl) (fun u hu => ?_) hS ?_
    rotate_left
    · ((have hT := HT5.out.below hu; have hF := obj_below HF5.out hu; obtain ⟨b0, b1, b2⟩ := obj_cells3 hT.2.1; obtain ⟨b3, b4, _, _⟩ := obj_cells hT.2.2.1; obtain ⟨b5, b6, _, _⟩ := obj_cells hT.2.2.2; obtain ⟨b7, b8, _, _⟩ := obj_cells hF; clear hT hF); go_simp; try (with_reducible rfl))
    try simp only [Act.put, List.setIfInBounds_toArray, List.set_cons_zero, List.set_cons_succ]
    refine give_val (i := 14) (v := ?_) rfl (by kernel_rfl) (by kernel_rfl) (by kernel_rfl) (fun _ _ _ h => h) (by rfl) (fun u hu => ?_) hS ?_
    rotate_left
    · ((have hT := HT5.out.below hu; have hF := obj_below HF5.out hu; obtain ⟨b0, b1, b2⟩ := obj_cells3 hT.2.1; obtain ⟨b3, b4, _, _⟩ := obj_cells hT.2.2.1; obtain ⟨b5, b6, _, _⟩ := obj_cells hT.2.2.2; obtain ⟨b7, b8, _, _⟩ := obj_cells hF; clear hT hF); go_simp; try (with_reducible rfl))
    try simp only [Act.put, List.setIfInBounds_toArray, List.set_cons_zero, List.set_cons_succ]
    refine wpAnyH_done (by kernel_rfl) (NoPanic.normal ?_) _
    go_wp2
    go_ret
    exact ⟨rfl, hbt HT5.out.1 hS⟩
theorem mvalid_walk (st v : Int) (A : Option Addr) (cap : Nat) (sl : List Sp) (m : ByteArray) (B : Option Addr) (c : Nat) (l : List Item) (no : Int) (t : ByteArray) (w : World) (hK : Kinds w) (hI : Spl w A sl) (_h1 : sl.length ≤ maxLen) (hm : m.size ≤ maxLen) (hL : Tlvs w B l) (_h2 : l.length ≤ maxLen) (hf : ∀ x ∈ l, x.2.size ≤ maxLen) (ht : t.size ≤ maxLen) :
    Calls Tryd.prog 7 #[.agg #[.int .i64 st, .int .i64 v, .slice A sl.length cap], .agg #[.string m, .slice B l.length c], .agg #[.int .i64 no, .string t]] w fun e w' => e = .returned (.bool true) ∧ Below w.heap.size w w' := by
  by_cases h : 200 < sl.length
  · exact mvalid_long st v A _ cap m B _ c no t w hK h
  · cases hg : greatM m l
    · by_cases hh : 1000 < t.size
      · exact mvalid_text st v A cap sl m B c l no t w hK hI hL hf ht h hg hh
      · by_cases hz : (msgN st v sl m l).1 = 0
        · exact mvalid_good st v A cap sl m B c l no t w hK hI hL hf ht h hm hg hh (msgN_first hz)
        · exact mvalid_bad st v A cap sl m B c l no t w hK hI hL hf h hg hh hz
    · exact mvalid_great st v A cap sl m B c l no t w hK hI hL hf h hg

end Go.Proofs.YthcdolkpdbbnkaaDoor
