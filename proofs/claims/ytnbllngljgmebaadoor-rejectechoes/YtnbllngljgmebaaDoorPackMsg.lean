/-
  Texts of one family, laid together: MsgMath, MsgOf, MsgPure, MsgCut, MsgRead, MsgIns, MsgRefCut, MsgEq, MsgChk, MsgRefChk.
-/
import Derived.Test.YtnbllngljgmebaaDoorPackTlv
import Derived.Test.YtnbllngljgmebaaDoorPackSpc
import Derived.Test.YtnbllngljgmebaaDoorPackSch
import Derived.Test.YtnbllngljgmebaaDoorPackMti
import Derived.Test.YtnbllngljgmebaaDoorPackFld
import Derived.Test.YtnbllngljgmebaaDoorPackBase
import Derived.Laws.CopyOwn
import Derived.OwnWalk
import Derived.Deep.DeepCutAuto
import Derived.BigQuiet
import Derived.Deep.RegionWith

/-
  Messages, over lists of values alone: what is wrong with one, which value a field has, what it is with and without a field. (Plain functions.)
-/
namespace Go.Proofs.YtnbllngljgmebaaDoor

theorem drop_item {l : List Item} {k : Nat} (h : k < l.length) : l.drop k = itemAt l k :: l.drop (k + 1) := by rw [itemAt_get h]; exact List.drop_eq_getElem_cons h
theorem items_end {l : List Item} {k : Nat} (h : l.length ≤ k) : l.drop k = [] := List.drop_eq_nil_of_le h
theorem items_all {l : List Item} {k : Nat} (h : l.length ≤ k) : l.take k = l := List.take_of_length_le h
theorem items_ext {l m : List Item} (hlen : l.length = m.length) (h : ∀ j, j < l.length → itemAt l j = itemAt m j) : l = m := by
  refine List.ext_getElem hlen fun j h1 h2 => ?_
  have := h j h1
  rwa [itemAt_get h1, itemAt_get h2] at this
theorem tags_snoc (l : List Item) (x : Item) : tagsOf (l ++ [x]) = tagsOf l ++ [x.1] := by simp [tagsOf]
theorem tags_length (l : List Item) : (tagsOf l).length = l.length := by simp [tagsOf]
theorem of_tags {l : List Item} {k : Nat} (hk : k < l.length) : ofH (tagsOf (l.take (k + 1))) = ofH (tagsOf (l.take k)) ||| aH (itemAt l k).1 ∧ ofL (tagsOf (l.take (k + 1))) = ofL (tagsOf (l.take k)) ||| aL (itemAt l k).1 := by
  rw [take_succ_item hk, tags_snoc]
  exact of_snoc _ _

/-- Is one of the texts too long to be played? -/
def longL (l : List Item) : Bool := l.any fun x => decide (1200 < x.2.size)
theorem long_hit {x : Item} {r : List Item} (h : 1200 < x.2.size) : longL (x :: r) = true := by simp [longL, h]
theorem long_miss {x : Item} {r : List Item} (h : ¬ 1200 < x.2.size) : longL (x :: r) = longL r := by simp [longL, h]
theorem long_no {l : List Item} (h : longL l = false) : ∀ x ∈ l, x.2.size ≤ 1200 := by
  intro x hx
  simp only [longL, List.any_eq_false, decide_eq_true_eq] at h
  have := h x hx
  omega
def greatM (m : ByteArray) (l : List Item) : Bool := decide (100 < m.size) || decide (200 < l.length) || longL l
theorem great_in {m : ByteArray} {l : List Item} (h : greatM m l = false) : m.size ≤ 100 ∧ l.length ≤ 200 ∧ longL l = false := by
  simp only [greatM, Bool.or_eq_false_iff, decide_eq_false_iff_not] at h
  exact ⟨by omega, by omega, h.2⟩
/-- Texts of up to 1200 bytes. -/
def Short (l : List Item) : Prop := ∀ x ∈ l, x.2.size ≤ 1200
theorem Short.at_ {l : List Item} (h : Short l) {k : Nat} (hk : k < l.length) : (itemAt l k).2.size ≤ 1200 := by
  rw [itemAt_get hk]; exact h _ (List.getElem_mem hk)

/-- The place of a field; -1: there is none. -/
def vfI (no : Int) : Nat → List Item → Int
  | _, [] => -1
  | i, x :: r => if x.1 = no then (i : Int) else vfI no (i + 1) r
theorem vfI_hit {no : Int} {i : Nat} {x : Item} {r : List Item} (h : x.1 = no) : vfI no i (x :: r) = (i : Int) := by rw [vfI, if_pos h]
theorem vfI_miss {no : Int} {i : Nat} {x : Item} {r : List Item} (h : x.1 ≠ no) : vfI no i (x :: r) = vfI no (i + 1) r := by rw [vfI, if_neg h]
theorem findS_cons (x : Item) (r : List Item) (no : Int) : findS (x :: r) no = if x.1 = no then x.2 else findS r no := by
  unfold findS
  by_cases h : x.1 = no
  · rw [if_pos h, List.find?_cons_of_pos (by simpa using h)]
  · rw [if_neg h, List.find?_cons_of_neg (by simpa using h)]
theorem findB_cons (x : Item) (r : List Item) (no : Int) : findB (x :: r) no = (decide (x.1 = no) || findB r no) := by
  simp only [findB, List.any_cons]
  congr 1
theorem vfind_rel (no : Int) : ∀ (l : List Item) (i : Nat), (findB l no = false ∧ findS l no = ⟨#[]⟩ ∧ vfI no i l = -1) ∨ (∃ k, k < l.length ∧ vfI no i l = ((i + k : Nat) : Int) ∧ findB l no = true ∧ findS l no = (itemAt l k).2)
  | [], i => .inl ⟨rfl, rfl, rfl⟩
  | x :: r, i => by
    by_cases h : x.1 = no
    · refine .inr ⟨0, by simp, ?_, ?_, ?_⟩
      · rw [vfI_hit h]; simp
      · rw [findB_cons, decide_eq_true h]; rfl
      · rw [findS_cons, if_pos h]; rfl
    · rw [vfI_miss h, findB_cons, findS_cons, if_neg h, decide_eq_false h, Bool.false_or]
      rcases vfind_rel no r (i + 1) with h1 | ⟨k, hk, h1, h2, h3⟩
      · exact .inl h1
      · refine .inr ⟨k + 1, by simpa using hk, ?_, h2, ?_⟩
        · rw [h1]; congr 1; omega
        · rw [h3]; simp [itemAt, List.getD]

/-- Without a field. -/
def outL (no : Int) (l : List Item) : List Item := l.filter fun x => decide (x.1 ≠ no)
theorem out_snoc (no : Int) (l : List Item) (x : Item) : outL no (l ++ [x]) = outL no l ++ (if x.1 = no then [] else [x]) := by
  by_cases h : x.1 = no <;> simp [outL, h]
theorem out_length (no : Int) (l : List Item) : (outL no l).length ≤ l.length := List.length_filter_le _ _
theorem out_part (no : Int) (l : List Item) (k : Nat) : (outL no (l.take k)).length ≤ l.length := Nat.le_trans (out_length _ _) (by simp; omega)
theorem out_mem {no : Int} {l : List Item} {x : Item} (h : x ∈ outL no l) : x ∈ l ∧ x.1 ≠ no := by simpa [outL] using h
theorem Short.out {l : List Item} (h : Short l) (no : Int) : Short (outL no l) := fun x hx => h x (out_mem hx).1
theorem out_find (no : Int) (l : List Item) : findB (outL no l) no = false := by
  simp only [findB, List.any_eq_false]
  intro x hx
  simpa using (out_mem hx).2

/-- Where a field of a number belongs. -/
def plcL (no : Int) : Nat → List Item → Nat
  | i, [] => i
  | i, x :: r => if no < x.1 then i else plcL no (i + 1) r
theorem plc_hit {no : Int} {i : Nat} {x : Item} {r : List Item} (h : no < x.1) : plcL no i (x :: r) = i := by rw [plcL, if_pos h]
theorem plc_miss {no : Int} {i : Nat} {x : Item} {r : List Item} (h : ¬ no < x.1) : plcL no i (x :: r) = plcL no (i + 1) r := by rw [plcL, if_neg h]
theorem plc_in (no : Int) : ∀ (l : List Item) (i : Nat), i ≤ plcL no i l ∧ plcL no i l ≤ i + l.length
  | [], i => by simp [plcL]
  | x :: r, i => by
    by_cases h : no < x.1
    · rw [plc_hit h]; simp
    · rw [plc_miss h]
      have := plc_in no r (i + 1)
      simp only [List.length_cons]
      omega
theorem plc_le (no : Int) (l : List Item) : plcL no 0 l ≤ l.length := by have := plc_in no l 0; omega
theorem plc_shift (no : Int) : ∀ (l : List Item) (i : Nat), plcL no (i + 1) l = plcL no i l + 1
  | [], i => rfl
  | x :: r, i => by
    by_cases h : no < x.1
    · rw [plc_hit h, plc_hit h]
    · rw [plc_miss h, plc_miss h, plc_shift no r (i + 1)]
/-- With a field, put in its place. -/
def insL (x : Item) (r : List Item) : List Item := r.take (plcL x.1 0 r) ++ x :: r.drop (plcL x.1 0 r)
def withL (no : Int) (t : ByteArray) (l : List Item) : List Item := insL (no, t) (outL no l)
/-- What is still to come, as the document has it. -/
def refW (x : Item) : Bool → List Item → List Item
  | true, l => l
  | false, [] => [x]
  | false, y :: r => if x.1 < y.1 then x :: y :: r else y :: refW x false r
theorem refW_true (x : Item) (l : List Item) : refW x true l = l := by cases l <;> rfl
theorem refW_nil (x : Item) : refW x false [] = [x] := rfl
theorem refW_hit {x y : Item} {r : List Item} (h : x.1 < y.1) : refW x false (y :: r) = x :: y :: r := by rw [refW, if_pos h]
theorem refW_miss {x y : Item} {r : List Item} (h : ¬ x.1 < y.1) : refW x false (y :: r) = y :: refW x false r := by rw [refW, if_neg h]
theorem refW_ins (x : Item) : ∀ l : List Item, refW x false l = insL x l
  | [] => rfl
  | y :: r => by
    by_cases h : x.1 < y.1
    · rw [refW_hit h, insL, plc_hit h]; rfl
    · rw [refW_miss h, refW_ins x r, insL, insL, plc_miss h, plc_shift]; rfl
theorem ins_length (x : Item) (r : List Item) : (insL x r).length = r.length + 1 := by
  have := plc_le x.1 r
  simp [insL]
  omega
theorem ins_mem {x y : Item} {r : List Item} (h : y ∈ insL x r) : y = x ∨ y ∈ r := by
  simp only [insL, List.mem_append, List.mem_cons] at h
  rcases h with h | h | h
  · exact .inr (List.mem_of_mem_take h)
  · exact .inl h
  · exact .inr (List.mem_of_mem_drop h)
theorem with_short {l : List Item} {no : Int} {t : ByteArray} (h : Short l) (ht : t.size ≤ 1200) : Short (withL no t l) := fun x hx => by
  rcases ins_mem hx with rfl | hx
  · exact ht
  · exact h.out no x hx
theorem with_length (no : Int) (t : ByteArray) (l : List Item) : (withL no t l).length ≤ l.length + 1 := by
  have := out_length no l
  rw [withL, ins_length]
  omega
theorem find_app (a b : List Item) (no : Int) (h : ∀ x ∈ a, x.1 ≠ no) : findS (a ++ b) no = findS b no ∧ findB (a ++ b) no = findB b no := by
  induction a with
  | nil => exact ⟨rfl, rfl⟩
  | cons x r ih =>
    have hx := h x (by simp)
    rw [List.cons_append, findS_cons, findB_cons, if_neg hx, decide_eq_false hx, Bool.false_or]
    exact ih fun y hy => h y (by simp [hy])
theorem with_find (no : Int) (t : ByteArray) (l : List Item) : findS (withL no t l) no = t ∧ findB (withL no t l) no = true := by
  unfold withL insL
  obtain ⟨h1, h2⟩ := find_app ((outL no l).take (plcL no 0 (outL no l))) ((no, t) :: (outL no l).drop (plcL no 0 (outL no l))) no (fun x hx => (out_mem (List.mem_of_mem_take hx)).2)
  rw [h1, h2, findS_cons, findB_cons]
  simp

/-- Are two messages the same? -/
def sameM (m : ByteArray) (l : List Item) (m' : ByteArray) (l' : List Item) : Bool := decide (m = m' ∧ l = l')
theorem sameM_comm (m : ByteArray) (l : List Item) (m' : ByteArray) (l' : List Item) : sameM m' l' m l = sameM m l m' l' := by
  unfold sameM
  rw [Bool.eq_iff_iff]
  simp only [decide_eq_true_eq]
  exact ⟨fun h => ⟨h.1.symm, h.2.symm⟩, fun h => ⟨h.1.symm, h.2.symm⟩⟩
theorem sameM_refl (m : ByteArray) (l : List Item) : sameM m l m l = true := by simp [sameM]
theorem sameM_m {m m' : ByteArray} {l l' : List Item} (h : m ≠ m') : sameM m l m' l' = false := by simp [sameM, h]
theorem sameM_l {m m' : ByteArray} {l l' : List Item} (h : l ≠ l') : sameM m l m' l' = false := by simp [sameM, h]
theorem sameM_on (m : ByteArray) (l l' : List Item) : sameM m l m l' = decide (l = l') := by simp [sameM]

/-- What is wrong with one field, behind the number last. -/
def spvS (x : Sp) (s : ByteArray) : Int := spv x.1 x.2.1 x.2.2.1 x.2.2.2.1 x.2.2.2.2 s
def fldE (sl : List Sp) (last : Int) (x : Item) : Int := if x.1 ≤ last then 11 else if (fndP x.1 sl).2 = false then 9 else spvS (fndP x.1 sl).1 x.2
theorem fldE_order {sl : List Sp} {last : Int} {x : Item} (h : x.1 ≤ last) : fldE sl last x = 11 := by rw [fldE, if_pos h]
theorem fldE_none {sl : List Sp} {last : Int} {x : Item} (h : ¬ x.1 ≤ last) (h2 : (fndP x.1 sl).2 = false) : fldE sl last x = 9 := by rw [fldE, if_neg h, if_pos h2]
theorem fldE_val {sl : List Sp} {last : Int} {x : Item} (h : ¬ x.1 ≤ last) (h2 : (fndP x.1 sl).2 = true) : fldE sl last x = spvS (fndP x.1 sl).1 x.2 := by rw [fldE, if_neg h, if_neg (by simp [h2])]
/-- What is wrong with a list of fields, and with which, behind the number last. -/
def msgL (sl : List Sp) : Int → List Item → Int × Int
  | _, [] => (0, 0)
  | last, x :: r => if fldE sl last x ≠ 0 then (fldE sl last x, x.1) else msgL sl x.1 r
theorem msgL_bad {sl : List Sp} {last : Int} {x : Item} {r : List Item} (h : fldE sl last x ≠ 0) : msgL sl last (x :: r) = (fldE sl last x, x.1) := by rw [msgL, if_pos h]
theorem msgL_ok {sl : List Sp} {last : Int} {x : Item} {r : List Item} (h : fldE sl last x = 0) : msgL sl last (x :: r) = msgL sl x.1 r := by rw [msgL, if_neg (by simp [h])]
/-- Is it an MTI of that version? -/
def mtiV (m : ByteArray) (v : Int) : Bool := mtiB m.data.toList && decide (((m.data.toList.headD 0).toNat : Int) - 48 = v)
theorem mtiV_none {m : ByteArray} {v : Int} (h : mtiB m.data.toList = false) : mtiV m v = false := by simp [mtiV, h]
theorem mtiV_T4 {a b c d : UInt8} {v : Int} (h : mtiB (T4 a b c d).data.toList = true) : mtiV (T4 a b c d) v = decide ((a.toNat : Int) - 48 = v) := by
  rw [mtiV, h, Bool.true_and]
  rfl
def msgN (st v : Int) (sl : List Sp) (m : ByteArray) (l : List Item) : Int × Int := if (schN st v sl).1 ≠ 0 then (1, -1) else if mtiV m v = false then (7, 0) else msgL sl 0 l
theorem msgN_arg {st v : Int} {sl : List Sp} {m : ByteArray} {l : List Item} (h : (schN st v sl).1 ≠ 0) : msgN st v sl m l = (1, -1) := by rw [msgN, if_pos h]
theorem msgN_mti {st v : Int} {sl : List Sp} {m : ByteArray} {l : List Item} (h : (schN st v sl).1 = 0) (h2 : mtiV m v = false) : msgN st v sl m l = (7, 0) := by rw [msgN, if_neg (by simp [h]), if_pos h2]
theorem msgN_list {st v : Int} {sl : List Sp} {m : ByteArray} {l : List Item} (h : (schN st v sl).1 = 0) (h2 : mtiV m v = true) : msgN st v sl m l = msgL sl 0 l := by rw [msgN, if_neg (by simp [h]), if_neg (by simp [h2])]

/-- A value that the schema lets be. -/
def okV (sl : List Sp) (x : Item) : Prop := (fndP x.1 sl).2 = true ∧ spvS (fndP x.1 sl).1 x.2 = 0
theorem fldE_zero {sl : List Sp} {last : Int} {x : Item} : fldE sl last x = 0 ↔ last < x.1 ∧ okV sl x := by
  by_cases h : x.1 ≤ last
  · rw [fldE_order h]
    constructor
    · intro e; exact absurd e (by decide)
    · intro e; omega
  · by_cases h2 : (fndP x.1 sl).2 = true
    · rw [fldE_val h h2]
      exact ⟨fun e => ⟨by omega, h2, e⟩, fun e => e.2.2⟩
    · have h3 : (fndP x.1 sl).2 = false := by simpa using h2
      rw [fldE_none h h3]
      constructor
      · intro e; exact absurd e (by decide)
      · intro e; exact absurd e.2.1 h2
/-- Right values, by rising numbers. -/
def Fits (sl : List Sp) : Int → List Item → Prop
  | _, [] => True
  | last, x :: r => last < x.1 ∧ okV sl x ∧ Fits sl x.1 r
theorem msgL_zero (sl : List Sp) : ∀ (l : List Item) (last : Int), msgL sl last l = (0, 0) ↔ Fits sl last l
  | [], last => by simp [msgL, Fits]
  | x :: r, last => by
    by_cases h : fldE sl last x = 0
    · rw [msgL_ok h, msgL_zero sl r x.1]
      have := fldE_zero.1 h
      simp only [Fits]
      exact ⟨fun e => ⟨this.1, this.2, e⟩, fun e => e.2.2⟩
    · rw [msgL_bad h]
      simp only [Fits]
      constructor
      · intro e; exact absurd (congrArg Prod.fst e) h
      · intro e; exact absurd (fldE_zero.2 ⟨e.1, e.2.1⟩) h
theorem Fits.weak {sl : List Sp} : ∀ {l : List Item} {a b : Int}, Fits sl a l → b ≤ a → Fits sl b l
  | [], _, _, _, _ => trivial
  | x :: r, _, _, h, hb => ⟨by have := h.1; omega, h.2⟩
theorem Fits.filter {sl : List Sp} (p : Item → Bool) : ∀ {l : List Item} {a : Int}, Fits sl a l → Fits sl a (l.filter p)
  | [], _, _ => trivial
  | x :: r, a, h => by
    have ih := Fits.filter p h.2.2
    by_cases hp : p x = true
    · rw [List.filter_cons_of_pos hp]
      exact ⟨h.1, h.2.1, ih⟩
    · rw [List.filter_cons_of_neg hp]
      exact ih.weak (by have := h.1; omega)
theorem Fits.ins {sl : List Sp} {x : Item} (hx : okV sl x) : ∀ {l : List Item} {a : Int}, Fits sl a l → a < x.1 → (∀ y ∈ l, y.1 ≠ x.1) → Fits sl a (refW x false l)
  | [], a, _, ha, _ => ⟨ha, hx, trivial⟩
  | y :: r, a, h, ha, hn => by
    by_cases hlt : x.1 < y.1
    · rw [refW_hit hlt]
      exact ⟨ha, hx, hlt, h.2⟩
    · rw [refW_miss hlt]
      have := hn y (by simp)
      exact ⟨h.1, h.2.1, Fits.ins hx h.2.2 (by omega) fun z hz => hn z (by simp [hz])⟩
theorem Fits.of_ins {sl : List Sp} {x : Item} : ∀ {l : List Item} {a : Int}, Fits sl a (refW x false l) → a < x.1 ∧ okV sl x
  | [], a, h => ⟨h.1, h.2.1⟩
  | y :: r, a, h => by
    by_cases hlt : x.1 < y.1
    · rw [refW_hit hlt] at h
      exact ⟨h.1, h.2.1⟩
    · rw [refW_miss hlt] at h
      obtain ⟨h1, h2⟩ := Fits.of_ins h.2.2
      exact ⟨by have := h.1; omega, h2⟩
theorem valid_in {st v : Int} {sl : List Sp} {m : ByteArray} {l : List Item} (h : msgN st v sl m l = (0, 0)) : (schN st v sl).1 = 0 ∧ mtiV m v = true ∧ Fits sl 0 l := by
  by_cases h1 : (schN st v sl).1 = 0
  · by_cases h2 : mtiV m v = true
    · rw [msgN_list h1 h2] at h
      exact ⟨h1, h2, (msgL_zero sl l 0).1 h⟩
    · rw [msgN_mti h1 (by simpa using h2)] at h
      exact absurd (congrArg Prod.fst h) (by decide)
  · rw [msgN_arg h1] at h
    exact absurd (congrArg Prod.fst h) (by decide)
theorem valid_out {st v : Int} {sl : List Sp} {m : ByteArray} {l : List Item} (h : msgN st v sl m l = (0, 0)) (no : Int) : msgN st v sl m (outL no l) = (0, 0) := by
  obtain ⟨h1, h2, h3⟩ := valid_in h
  rw [msgN_list h1 h2, msgL_zero]
  exact h3.filter _
theorem valid_with {st v : Int} {sl : List Sp} {m : ByteArray} {l : List Item} (h : msgN st v sl m l = (0, 0)) (no : Int) (t : ByteArray) : msgN st v sl m (withL no t l) = (0, 0) ↔ msgN st v sl m [(no, t)] = (0, 0) := by
  obtain ⟨h1, h2, h3⟩ := valid_in h
  rw [msgN_list h1 h2, msgN_list h1 h2, msgL_zero, msgL_zero, withL, ← refW_ins]
  constructor
  · intro e
    obtain ⟨e1, e2⟩ := Fits.of_ins e
    exact ⟨e1, e2, trivial⟩
  · intro e
    exact Fits.ins e.2.1 (h3.filter _) e.1 fun y hy => (out_mem hy).2

end Go.Proofs.YtnbllngljgmebaaDoor

/-
  Slices of fields' values: a row of the call's own, a copy; a message's block.
-/
namespace Go.Proofs.YtnbllngljgmebaaDoor
open Go.RowKit

theorem Tryd.infoVal : (Tryd.prog.info? 63).map (fun i => (i.zero, i.size, i.bytes)) = some (some (.agg #[.int .i64 0, .string ⟨#[]⟩]), 2, 24) := by kernel_rfl
theorem Tlvs.at_ {w : World} {A : Option Addr} {l : List Item} (h : Tlvs w A l) {i : Nat} (hi : i < l.length) : ∃ a n s, A = some a ∧ itemAt l i = (n, s) ∧ w.cell? (a.add (i * 2)) = some (.int .i64 n) ∧ w.cell? ⟨(a.add (i * 2)).block, (a.add (i * 2)).off + 1, none⟩ = some (.string s) := by
  obtain ⟨a, ha, h0, h1⟩ := h i hi
  exact ⟨a, _, _, ha, rfl, h0, h1⟩
/-- What a row of the call's own holds, as a slice that is read. -/
theorem vals_own {w : World} {base n e : Nat} {v : Value} {l : List Item} (h : w.ownsRow base e 2 v n (itemsC l)) (hn : n = l.length) : ∃ A cap, v = .slice A l.length cap ∧ Tlvs w A l := by
  subst hn
  rcases h.2 with ⟨hv, h0⟩ | ⟨g, cap, cur, hv, _⟩
  · have : l = [] := List.eq_nil_of_length_eq_zero h0
    subst this
    exact ⟨none, 0, hv, tlvs_nil _ _⟩
  · refine ⟨some ⟨g, 0, none⟩, cap, hv, fun i hi => ⟨_, rfl, ?_⟩⟩
    subst hv
    have e1 : (⟨g, 0, none⟩ : Addr).add (i * 2) = ⟨g, i * 2, none⟩ := by rw [Addr.add_lit, Nat.zero_add]
    rw [e1]
    have hc := itemsC_at l i hi
    exact ⟨(h.cellAt (i * 2) (by omega)).trans hc.1, (h.cellAt (i * 2 + 1) (by omega)).trans hc.2⟩
theorem vals_own_at {w : World} {base n e cap : Nat} {A : Option Addr} {l : List Item} (h : w.ownsRow base e 2 (.slice A n cap) n (itemsC l)) (hn : n = l.length) : Tlvs w A l := by
  obtain ⟨A', c', hv, ht⟩ := vals_own h hn
  injection hv with h1 h2 h3
  subst h1
  exact ht
theorem vals_own_cap {w : World} {base n e : Nat} {v : Value} {l : List Item} (h : w.ownsRow base e 2 v n (itemsC l)) (hn : n = l.length) : ∃ A cap, v = .slice A l.length cap ∧ l.length ≤ cap ∧ Tlvs w A l := by
  obtain ⟨A, cap, hv, ht⟩ := vals_own h hn
  refine ⟨A, cap, hv, ?_, ht⟩
  subst hn
  rcases h.2 with ⟨_, h0⟩ | ⟨g, c, cur, h1, _, _, h4, _⟩
  · omega
  · rw [h1] at hv
    injection hv with _ _ h3
    omega
/-- A row's cells, as a slice of values. -/
theorem vals_row {u : World} {g : Nat} {cs : Array Value} {t : TypeId} {l : List Item} (h : u.heap[g]? = some (.cells cs t)) (hc : cs.toList = itemsC l) : Tlvs u (some ⟨g, 0, none⟩) l := by
  intro i hi
  refine ⟨_, rfl, ?_⟩
  rw [show (⟨g, 0, none⟩ : Addr).add (i * 2) = ⟨g, i * 2, none⟩ from by rw [Addr.add_lit, Nat.zero_add]]
  have hat := itemsC_at l i hi
  have hcell : ∀ j, u.cell? ⟨g, j, none⟩ = (itemsC l)[j]? := fun j => by rw [cell_of_row u g j _ t _ h, ← hc]; simp
  exact ⟨(hcell (i * 2)).trans hat.1, (hcell (i * 2 + 1)).trans hat.2⟩

/-- 'append([]api.Value{}, l...)', at a step of a region that draws its order: a slice of the call's own that holds the same, also where l is of none. -/
theorem wp_copy_vals {o : Oper} {a : Act} {K : Act → World → Prop} {Q : Exit → Act → World → Prop} (s x : Operand)
    (ho : o.op = .call { callee := .builtin .append, args := #[s, x], argTypes := #[43, 43] }) (U : World) (B g : Nat) (hs : a.eval s = .slice (some ⟨g, 0, none⟩) 0 0)
    (hown : U.ownsRow B 63 2 (.slice (some ⟨g, 0, none⟩) 0 0) 0 []) (hB : B ≤ U.heap.size)
    (A : Option Addr) (c len : Nat) (hx : a.eval x = .slice A len c) (l : List Item) (hlen : l.length = len) (hT : Tlvs U A l) (hl : len ≤ 5000000)
    (h : ∀ A' c' w', Tlvs w' A' l → (∀ a, A' = some a → a.block = g ∨ a.block = U.heap.size) → (∀ W : World, Below W.heap.size W U → W.heap.size ≤ g → Below W.heap.size W w') → K (a.put o.dst (.slice A' len c')) w') : o.wp Tryd.prog a U K Q := by
  obtain ⟨i0, hi, hz0, hz1, hz2⟩ := info_parts Tryd.infoVal
  by_cases h0 : len = 0
  · subst h0
    have hnil : l = [] := List.eq_nil_of_length_eq_zero hlen
    subst hnil
    have hr : (Builtin.append_ #[43, 43] o.type #[.slice (some ⟨g, 0, none⟩) 0 0, .slice A 0 c]).run Tryd.prog U = .ok (.slice (some ⟨g, 0, none⟩) 0 0) U := by
      cases A <;> simp [Builtin.append_, run_underlying Tryd.underlying43, sizeOf, typeInfo, hi, Builtin.lenOf, Builtin.firstCells, storeCells, loadCells, loadCellsFrom]
    unfold Oper.wp execOp
    simp only [ho, resolve, invoke, builtin, Sem.run_bind, Sem.run_pure, Result.andThen_ok, List.map_toArray, List.map_cons, List.map_nil, hs, hx, hr]
    exact h _ _ _ (tlvs_nil _ _) (fun a ha => by injection ha with ha; subst ha; exact .inl rfl) (fun W hW _ => hW)
  · obtain ⟨a', rfl, _⟩ := hT 0 (by omega)
    refine wp_append_lies _ s x _ ho B 63 i0 _ 2 24 Tryd.underlying43 hi hz0 hz1 hz2 rfl (by omega) (.slice (some ⟨g, 0, none⟩) 0 0) 0 [] hs hown a' len c (itemsC l) hx (by rw [itemsC_length, hlen]) (tlvs_news hT) (items_one l) (by omega) (by unfold maxLen; omega) (by omega) hB U.heap.size rfl ?_
    intro g' cap' w2 hown2 hgrow hat hlt2
    rw [Nat.zero_add] at hown2 ⊢
    have hblk : ∀ q : Addr, (some ⟨g', 0, none⟩ : Option Addr) = some q → q.block = g ∨ q.block = U.heap.size := by
      intro q hq
      injection hq with hq
      subst hq
      rcases hat with he | he
      · left; simp [Value.ownBlock] at he; exact he.symm
      · exact .inr he
    exact h _ _ _ (vals_own_at (by simpa using hown2) hlen.symm) hblk (fun W hW hg => hW.grown hgrow hW.size (by intro q hq; simp [Value.ownBlock] at hq; omega))

/-- A message in a block. -/
def MBox (u : World) (g : Nat) (m : ByteArray) (A : Option Addr) (len cap : Nat) : Prop := u.heap[g]? = some (.cells #[.string m, .slice A len cap] 45)
theorem MBox.below {u u' : World} {g : Nat} {m : ByteArray} {A : Option Addr} {len cap : Nat} (h : MBox u g m A len cap) (hb : Below u.heap.size u u') : MBox u' g m A len cap := obj_below h hb
theorem mbox_new (w : World) (m : ByteArray) (A : Option Addr) (len cap : Nat) : MBox (w.alloc (.cells #[.string m, .slice A len cap] 45)) w.heap.size m A len cap := heap_alloc_new _ _
theorem vals_set {w : World} {A : Option Addr} {l : List Item} {p : Nat} (h : Tlvs w A l) (hp : ∀ a, A = some a → a.block ≠ p) (i : Nat) (x : Value) : Tlvs (w.setCell ⟨p, i, none⟩ x) A l := by
  intro k hk
  obtain ⟨a, ha, h0, h1⟩ := h k hk
  have hab : (a.add (k * 2)).block = a.block := by unfold Addr.add; split <;> rfl
  have hc : ∀ q : Addr, q.block = a.block → (w.setCell ⟨p, i, none⟩ x).cell? q = w.cell? q := fun q hq => World.cell?_of_block (by
    have hne : q.block ≠ p := by rw [hq]; exact hp a ha
    rw [heap_setCell_other _ _ _ _ hne])
  exact ⟨a, ha, (hc _ hab).trans h0, (hc ⟨_, (a.add (k * 2)).off + 1, none⟩ hab).trans h1⟩
/-- A slice of values lies in no block of a text and a slice. -/
theorem vals_apart {w : World} {A : Option Addr} {l : List Item} {p : Nat} {m : ByteArray} {X : Option Addr} {n c : Nat} {t : TypeId} (h : Tlvs w A l) (hl : 0 < l.length) (hg : w.heap[p]? = some (.cells #[.string m, .slice X n c] t)) : ∀ a, A = some a → a.block ≠ p := by
  intro q hq e
  obtain ⟨a', ha, h0, _⟩ := h 0 hl
  rw [hq] at ha
  injection ha with ha
  subst ha
  have hz : (q.add (0 * 2)) = q := by simp [Addr.add]
  rw [hz] at h0
  obtain ⟨b, o, f⟩ := q
  dsimp only at e
  subst e
  cases f with
  | none =>
    rw [cell_of_row _ _ _ _ _ _ hg] at h0
    match o with
    | 0 => simp at h0
    | 1 => simp at h0
    | o + 2 => simp at h0
  | some f => simp [World.cell?, hg] at h0
theorem vals_store2 {w : World} {A : Option Addr} {l : List Item} {p : Nat} {m : ByteArray} {X : Option Addr} {n c : Nat} {t : TypeId} (h : Tlvs w A l) (hg : w.heap[p]? = some (.cells #[.string m, .slice X n c] t)) (m' : ByteArray) (X' : Option Addr) (n' c' : Nat) :
    Tlvs ((w.setCell ⟨p, 0, none⟩ (.string m')).setCell ⟨p, 1, none⟩ (.slice X' n' c')) A l := by
  by_cases h0 : 0 < l.length
  · exact vals_set (vals_set h (vals_apart h h0 hg) _ _) (vals_apart h h0 hg) _ _
  · intro i hi; omega
theorem vals_store1 {w : World} {A : Option Addr} {l : List Item} {p : Nat} {m : ByteArray} {X : Option Addr} {n c : Nat} {t : TypeId} (h : Tlvs w A l) (hg : w.heap[p]? = some (.cells #[.string m, .slice X n c] t)) (x : Value) :
    Tlvs (w.setCell ⟨p, 1, none⟩ x) A l := by
  by_cases h0 : 0 < l.length
  · exact vals_set h (vals_apart h h0 hg) _ _
  · intro i hi; omega
theorem owns_set1 {w : World} {base e size n p : Nat} {v : Value} {xs : List Value} (h : w.ownsRow base e size v n xs) (hp : p < base) (i : Nat) (x : Value) : (w.setCell ⟨p, i, none⟩ x).ownsRow base e size v n xs := by
  refine ⟨h.1, ?_⟩
  rcases h.2 with h1 | ⟨g', cap, cur, h1, h2, h3, h4⟩
  · exact .inl h1
  · refine .inr ⟨g', cap, cur, h1, h2, ?_, h4⟩
    rw [heap_setCell_other _ _ _ _ (show g' ≠ p by omega)]
    exact h3

end Go.Proofs.YtnbllngljgmebaaDoor

/-
  What follows of messages' lists: values that may be, by rising numbers; with and without a field. (Plain functions.)
-/
namespace Go.Proofs.YtnbllngljgmebaaDoor

theorem fnd_no (no : Int) : ∀ (l : List Sp), (fndP no l).2 = true → (fndP no l).1.1 = no ∧ (fndP no l).1 ∈ l
  | [], h => by cases h
  | x :: r, h => by
    by_cases hx : x.1 = no
    · rw [fndP_hit hx]; exact ⟨hx, by simp⟩
    · rw [fndP_miss hx] at h ⊢
      have := fnd_no no r h
      exact ⟨this.1, by simp [this.2]⟩
theorem okV_range {st v : Int} {b : List Sp} (hb : (schN st v b).1 = 0) {y : Item} (h : okV b y) : 2 ≤ y.1 ∧ y.1 ≤ 128 := by
  obtain ⟨h1, h2⟩ := fnd_no y.1 b h.1
  have := (right_rise hb).most _ h2
  omega
theorem fits_up {sl : List Sp} : ∀ {l : List Item} {a : Int}, Fits sl a l → (∀ x ∈ l, a < x.1) ∧ l.Pairwise (fun x y => x.1 < y.1)
  | [], _, _ => ⟨fun x hx => by simp at hx, List.Pairwise.nil⟩
  | x :: r, a, h => by
    obtain ⟨h1, h2⟩ := fits_up h.2.2
    refine ⟨fun y hy => ?_, List.pairwise_cons.2 ⟨h1, h2⟩⟩
    rcases List.mem_cons.1 hy with rfl | hy
    · exact h.1
    · have := h1 y hy; have := h.1; omega
theorem fits_in {sl : List Sp} : ∀ {l : List Item} {a : Int}, Fits sl a l → ∀ x ∈ l, okV sl x
  | [], _, _, x, hx => by simp at hx
  | y :: r, a, h, x, hx => by
    rcases List.mem_cons.1 hx with rfl | hx
    · exact h.2.1
    · exact fits_in h.2.2 x hx
/-- A message of one value. -/
theorem valid_one {st v : Int} {sl : List Sp} {m : ByteArray} {x : Item} (h : msgN st v sl m [] = (0, 0)) (hx : okV sl x) : msgN st v sl m [x] = (0, 0) := by
  obtain ⟨h1, h2, _⟩ := valid_in h
  rw [msgN_list h1 h2, msgL_zero]
  have := okV_range h1 hx
  exact ⟨by omega, hx, trivial⟩
theorem find_mem {no : Int} : ∀ {l : List Item}, findB l no = true → (no, findS l no) ∈ l
  | [], h => by simp [findB] at h
  | x :: r, h => by
    rw [findB_cons] at h
    by_cases e : x.1 = no
    · rw [findS_cons, if_pos e, ← e]; simp
    · rw [decide_eq_false e, Bool.false_or] at h
      rw [findS_cons, if_neg e]
      exact List.mem_cons_of_mem _ (find_mem h)
/-- A field of another number stays. -/
theorem find_split (p q : List Item) (y : Item) {no : Int} (hy : y.1 ≠ no) : findS (p ++ y :: q) no = findS (p ++ q) no ∧ findB (p ++ y :: q) no = findB (p ++ q) no := by
  induction p with
  | nil => rw [List.nil_append, List.nil_append, findS_cons, findB_cons, if_neg hy, decide_eq_false hy, Bool.false_or]; exact ⟨rfl, rfl⟩
  | cons x r ih =>
    rw [List.cons_append, List.cons_append, findS_cons, findB_cons, findS_cons, findB_cons, ih.1, ih.2]
    exact ⟨rfl, rfl⟩
theorem find_out {no g : Int} (hne : no ≠ g) : ∀ (l : List Item), findS (outL g l) no = findS l no ∧ findB (outL g l) no = findB l no
  | [] => ⟨rfl, rfl⟩
  | x :: r => by
    have ih := find_out hne r
    by_cases hx : x.1 = g
    · have e : outL g (x :: r) = outL g r := by simp [outL, hx]
      have hxn : x.1 ≠ no := fun k => hne (k.symm.trans hx)
      rw [e, findS_cons, findB_cons, if_neg hxn, decide_eq_false hxn, Bool.false_or]
      exact ih
    · have e : outL g (x :: r) = x :: outL g r := by simp [outL, hx]
      rw [e, findS_cons, findB_cons, findS_cons, findB_cons, ih.1, ih.2]
      exact ⟨rfl, rfl⟩
theorem wfind_other {no g : Int} (hne : no ≠ g) (t : ByteArray) (l : List Item) : findS (withL g t l) no = findS l no ∧ findB (withL g t l) no = findB l no := by
  unfold withL insL
  obtain ⟨h1, h2⟩ := find_split ((outL g l).take (plcL (g, t).1 0 (outL g l))) ((outL g l).drop (plcL (g, t).1 0 (outL g l))) (g, t) (no := no) (fun e => hne e.symm)
  rw [h1, h2, List.take_append_drop]
  exact find_out hne l

end Go.Proofs.YtnbllngljgmebaaDoor

/-
  What the document's Copy, Without and Numbers, and others, Without and Set answer: for every message of up to 1000 fields, in every world.
-/
namespace Go.Proofs.YtnbllngljgmebaaDoor
open Go.RowKit

/-- A message in one block, room for another in a second: what a region keeps. -/
def MCopies (w : World) (m : ByteArray) (A : Option Addr) (len cap : Nat) (u : World) : Prop := Below w.heap.size w u ∧ MBox u w.heap.size m A len cap ∧ ∃ m' X n c, MBox u (w.heap.size + 1) m' X n c
theorem MCopies.below {w : World} {m : ByteArray} {A : Option Addr} {len cap : Nat} {u u' : World} (h : MCopies w m A len cap u) (hb : Below u.heap.size u u') : MCopies w m A len cap u' := by
  obtain ⟨h1, h2, m', X, n, c, h3⟩ := h
  exact ⟨hbt h1 hb, h2.below hb, m', X, n, c, h3.below hb⟩
theorem MCopies.drew {w : World} {m : ByteArray} {A : Option Addr} {len cap : Nat} {u : World} (h : MCopies w m A len cap u) : MCopies w m A len cap u.drew := ⟨h.1.drew, h.2⟩
theorem MCopies.store {w : World} {m : ByteArray} {A : Option Addr} {len cap : Nat} {u : World} (h : MCopies w m A len cap u) (m' : ByteArray) (X : Option Addr) (n c : Nat) : MCopies w m A len cap ((u.setCell ⟨w.heap.size + 1, 0, none⟩ (.string m')).setCell ⟨w.heap.size + 1, 1, none⟩ (.slice X n c)) := by
  obtain ⟨h1, h2, _, _, _, _, h3⟩ := h
  exact ⟨below_set2 h1 (Nat.le_succ _) _ _, obj_set_other h2 (by omega) _ _, m', X, n, c, obj_set2 h3 _ _⟩
theorem mcopies_new (w : World) (m : ByteArray) (A : Option Addr) (len cap : Nat) : MCopies w m A len cap ((w.alloc (.cells #[.string m, .slice A len cap] 45)).alloc (.cells #[.string ⟨#[]⟩, .slice none 0 0] 45)) :=
  ⟨hbt (below_al _ _) (below_al _ _), (mbox_new _ _ _ _ _).below (below_al _ _), _, _, _, _, heap_al _ _ _ (by simp)⟩

set_option maxRecDepth 100000 in
set_option maxHeartbeats 3200000 in
theorem mcopy_any (m : ByteArray) (A : Option Addr) (cap : Nat) (l : List Item) (w : World) (hI : Tlvs w A l) (hn : l.length ≤ 1000) :
    Calls Tryd.prog 17 #[.agg #[.string m, .slice A l.length cap]] w fun e w' => ∃ A' cap', e = .returned (.agg #[.string m, .slice A' l.length cap']) ∧ Tlvs w' A' l ∧ Below w.heap.size w w' := by
  generalize hlen : l.length = len at *
  have HLEN := Lib.hid hlen
  clear hlen
  have HC := Lib.hid (mcopies_new w m A len cap)
  have HI := Lib.hid (hI.below HC.out.1)
  clear hI
  go_enter Tryd.func17, Tryd.ntmps17
  go_wp2_with fail
  generalize (w.alloc (.cells #[.string m, .slice A len cap] 45)).alloc (.cells #[.string ⟨#[]⟩, .slice none 0 0] 45) = U at *
  refine wp_region_noPanic ?_
  refine wp_region_held_drew (S := (MCopies w m A len cap)) (by kernel_rfl) (HC.out.drew) (fun hS => ?_)
  refine gv 0 (v := ?_) (fun u hu => ?_) hS ?_
  rotate_left
  · ((obtain ⟨_, hu2, _⟩ := hu; obtain ⟨c0, c1, _, _⟩ := obj_cells hu2; clear hu2); go_simp; try (with_reducible rfl))
  try simp only [puts]
  refine gv 1 (v := ?_) (fun u hu => ?_) hS ?_
  rotate_left
  · ((obtain ⟨_, hu2, _⟩ := hu; obtain ⟨c0, c1, _, _⟩ := obj_cells hu2; clear hu2); go_simp; try (with_reducible rfl))
  try simp only [puts]
  refine gv 3 (v := ?_) (fun u hu => ?_) hS ?_
  rotate_left
  · ((obtain ⟨_, hu2, _⟩ := hu; obtain ⟨c0, c1, _, _⟩ := obj_cells hu2; clear hu2); go_simp; try (with_reducible rfl))
  try simp only [puts]
  refine gv 4 (v := ?_) (fun u hu => ?_) hS ?_
  rotate_left
  · ((obtain ⟨_, hu2, _⟩ := hu; obtain ⟨c0, c1, _, _⟩ := obj_cells hu2; clear hu2); go_simp; try (with_reducible rfl))
  try simp only [puts]
  refine only (i := 2) rfl (by kernel_rfl) (by rfl) (fun K hK => ?_)
  go_simp
  refine hK.out _ _ (HC.out.below (below_al _ _)).drew ?_
  clear hK
  try simp only [puts]
  refine only (i := 5) rfl (by kernel_rfl) (by rfl) (fun K hK => ?_)
  refine wp_copy_vals _ _ (by rfl) _ U.heap.size U.heap.size (by rfl) (World.ownsRow_lit U #[] 0 (Nat.le_refl _) (by unfold maxLen; omega) rfl).drew (by simp) A cap len (by rfl) l HLEN.out (HI.out.below (below_al U (.cells #[] 63)).drew) (by omega) ?_
  intro A' c' w2 hT2 _ hbw
  have hb2 : Below U.heap.size U w2 := hbw U (below_al U (.cells #[] 63)).drew (Nat.le_refl _)
  have HT2 := Lib.hid hT2
  have hC2 := HC.out.below hb2
  clear hbw hT2
  refine hK.out _ _ hC2 ?_
  clear hK
  try simp only [puts]
  clear hS
  have hS := hC2
  refine gv 6 (v := ?_) (fun u hu => ?_) hS ?_
  rotate_left
  · ((obtain ⟨_, hu2, _⟩ := hu; obtain ⟨c0, c1, _, _⟩ := obj_cells hu2; clear hu2); go_simp; try (with_reducible rfl))
  try simp only [puts]
  refine only (i := 7) rfl (by kernel_rfl) (by rfl) (fun K hK => ?_)
  obtain ⟨hS1, hS2, x0, x1, x2, x3, hS3⟩ := id hC2
  obtain ⟨c0, c1, f0, f1⟩ := obj_cells hS3
  go_simp
  refine hK.out _ _ (hC2.store _ _ _ _) ?_
  clear hK
  try simp only [puts]
  refine wpAnyH_done (by kernel_rfl) (NoPanic.normal ?_) _
  have HR := Lib.hid (obj_set2 hS3 (.string m) (.slice A' len c'))
  have HB := Lib.hid (hC2.store m A' len c').1
  have HT := Lib.hid (vals_store2 HT2.out hS3 m A' len c')
  clear hS hC2 hS1 hS2 hS3 c0 c1 f0 f1 hb2
  generalize ((w2.setCell _ _).setCell _ _) = w4 at *
  go_wp2
  refine bodyPost_ret (results_cell_row rfl _ _ (w.heap.size + 1) _ _ _ _ rfl HR.out Tryd.underlying45 rfl (by kernel_rfl)) rfl ?_
  exact ⟨A', c', rfl, HT.out, HB.out⟩

set_option maxRecDepth 100000 in
set_option maxHeartbeats 3200000 in
theorem mothers_any (A : Option Addr) (cap : Nat) (l : List Item) (no : Int) (w : World) (hI : Tlvs w A l) (hn : l.length ≤ 5864062014700) :
    Calls Tryd.prog 60 #[.slice A l.length cap, .int .i64 no] w fun e w' => ∃ A' cap', e = .returned (.slice A' (outL no l).length cap') ∧ (outL no l).length ≤ cap' ∧ Tlvs w' A' (outL no l) ∧ Below w.heap.size w w' := by
  obtain ⟨i0, hi, hz0, hz1, hz2⟩ := info_parts Tryd.infoVal
  have HKN := Lib.hid (out_part no l)
  generalize hlen : l.length = len at *
  have HLEN := Lib.hid hlen
  have HI := Lib.hid hI
  clear hlen hI
  go_enter Tryd.func60, Tryd.ntmps60
  go_wp2
  go_loopw [5, 10] (fun y i wr => ∃ k : Nat, k ≤ len ∧ i = .int .i64 (k : Int) ∧ wr.ownsRow w.heap.size 63 2 y (outL no (l.take k)).length (itemsC (outL no (l.take k))) ∧ Below w.heap.size w wr) (fun _ i _ => len - (intOf i).toNat)
  case atStart => exact ⟨0, Nat.zero_le _, rfl, World.ownsRow_nil _ _ _ _, Below.refl _ _⟩
  case round =>
    obtain ⟨k, hk, rfl, hown, hb⟩ := hrel
    have HO := Lib.hid hown
    have HB := Lib.hid hb
    have hbz := hb.size
    clear hown hb
    by_cases hlt : k < len
    · have hkl : k < l.length := by have := HLEN.out; omega
      obtain ⟨a, n, s, rfl, hx, c0, c1⟩ := (HI.out.below HB.out).at_ hkl
      have hst : outL no (l.take (k + 1)) = outL no (l.take k) ++ (if n = no then [] else [(n, s)]) := by rw [take_succ_item hkl, out_snoc, hx]
      have hkn := HKN.out k
      clear hx hkl
      by_cases hz : n = no
      · have tz : (n != no) = false := by simpa using hz
        have HST := Lib.hid (hst.trans (by rw [if_pos hz, List.append_nil] : _ = outL no (l.take k)))
        clear hst hkn hz
        go_wp2
        go_roundw
        case rel => exact ⟨k + 1, by omega, by go_num, by rw [HST.out]; exact HO.out.alloc _, hbt HB.out (below_al _ _)⟩
        case measure => simp [intOf]; omega
      · have tz : (n != no) = true := by simpa using hz
        have HST := Lib.hid (hst.trans (by rw [if_neg hz] : _ = outL no (l.take k) ++ [(n, s)]))
        clear hst hz
        generalize hkl : outL no (l.take k) = kl at *
        clear hkl
        generalize hm : kl.length = m at *
        have HMM := Lib.hid hm
        clear hm
        have HO2 := Lib.hid ((HO.out.alloc (.cells #[.int .i64 n, .string s] 63)).alloc (.cells #[.int .i64 n, .string s] 63))
        clear HO
        go_wp2_with (at_builtin; refine wpList_append_lies _ rfl _ _ _ rfl w.heap.size 63 i0 _ 2 24 Tryd.underlying43 hi hz0 hz1 hz2 rfl (by omega) _ m (itemsC kl) rfl HO2.out ⟨wr.heap.size + 1, 0, none⟩ 1 1 (itemC (n, s)) rfl rfl (World.news_of_block (cs := #[.int .i64 n, .string s]) (t := 63) (fr := (0, 0)) (heap_al _ _ _ (by simp))) (by simp [itemC, Value.oneCell']) (by omega) (by unfold maxLen; omega) (by omega) (by simp; omega) (wr.heap.size + 1 + 1) (by simp) ?_; intro g' cap' w4 hown4 hgrow4 hat4 hlt4)
        have HO4 := Lib.hid hown4
        have HB4 := Lib.hid ((hbt (hbt HB.out (below_al _ _)) (below_al _ _)).grown hgrow4 (by simp; omega) (fun q hq => (HO2.out.lt q hq).1))
        clear hown4 hgrow4 hat4 hlt4
        go_wp2
        go_roundw
        case rel => exact ⟨k + 1, by omega, by go_num, by rw [HST.out, itemsC_snoc, List.length_append, HMM.out]; exact HO4.out, HB4.out⟩
        case measure => simp [intOf]; omega
    · have he : l.take k = l := items_all (by have := HLEN.out; omega)
      have ho1 := HO.out
      rw [he] at ho1
      obtain ⟨A', cap', rfl, hc, ht⟩ := vals_own_cap ho1 rfl
      have HT := Lib.hid ht
      have HCP := Lib.hid hc
      clear ho1 he HO ht hc
      go_wp2
      go_ret
      exact ⟨A', cap', rfl, HCP.out, HT.out, HB.out⟩




end Go.Proofs.YtnbllngljgmebaaDoor

/-
  What Great, Get, the document's Find and placeOf answer: for every message of up to 1000 fields, in every world.
-/
namespace Go.Proofs.YtnbllngljgmebaaDoor
open Go.RowKit

set_option maxRecDepth 100000 in
set_option maxHeartbeats 1600000 in
theorem mgreat_m (m : ByteArray) (A : Option Addr) (len cap : Nat) (w : World) (h : 100 < m.size) :
    Calls Tryd.prog 15 #[.agg #[.string m, .slice A len cap]] w fun e w' => e = .returned (.bool true) ∧ Below w.heap.size w w' := by
  have t : decide ((100 : Int) < (m.size : Int)) = true := by simp; omega
  clear h
  go_enter Tryd.func15, Tryd.ntmps15
  go_wp2
  go_ret
  exact ⟨rfl, below_al _ _⟩
set_option maxRecDepth 100000 in
set_option maxHeartbeats 1600000 in
theorem mgreat_n (m : ByteArray) (A : Option Addr) (len cap : Nat) (w : World) (h : ¬ 100 < m.size) (h2 : 200 < len) :
    Calls Tryd.prog 15 #[.agg #[.string m, .slice A len cap]] w fun e w' => e = .returned (.bool true) ∧ Below w.heap.size w w' := by
  have t : decide ((100 : Int) < (m.size : Int)) = false := by simp; omega
  have t2 : decide ((200 : Int) < (len : Int)) = true := by simp; omega
  clear h h2
  go_enter Tryd.func15, Tryd.ntmps15
  go_wp2
  go_ret
  exact ⟨rfl, below_al _ _⟩
set_option maxRecDepth 100000 in
set_option maxHeartbeats 1600000 in
theorem mgreat_l (m : ByteArray) (A : Option Addr) (cap : Nat) (l : List Item) (w : World) (hI : Tlvs w A l) (hf : ∀ x ∈ l, x.2.size ≤ maxLen) (h : ¬ 100 < m.size) (h2 : ¬ 200 < l.length) :
    Calls Tryd.prog 15 #[.agg #[.string m, .slice A l.length cap]] w fun e w' => e = .returned (.bool (longL l)) ∧ Below w.heap.size w w' := by
  have t : decide ((100 : Int) < (m.size : Int)) = false := by simp; omega
  have t2 : decide ((200 : Int) < (l.length : Int)) = false := by simp; omega
  have hn : l.length ≤ 1000 := by omega
  have HI := Lib.hid (hI.below (below_al w (.cells #[.string m, .slice A l.length cap] 45)))
  have HF : Hid (∀ k, k < l.length → (itemAt l k).2.size ≤ maxLen) := fun k hk => by rw [itemAt_get hk]; exact hf _ (List.getElem_mem hk)
  clear hI h h2 hf
  generalize hlen : l.length = len at *
  have HLEN := Lib.hid hlen
  clear hlen
  generalize hR : longL l = R
  have HR0 := Lib.hid hR
  clear hR
  go_enter Tryd.func15, Tryd.ntmps15
  go_wp2
  go_loop [3] (fun i => ∃ k : Nat, k ≤ len ∧ i = .int .i64 (k : Int) ∧ longL (l.drop k) = R) (fun i => len - (intOf i).toNat)
  case atStart => exact ⟨0, Nat.zero_le _, rfl, HR0.out⟩
  case round =>
    obtain ⟨k, hk, rfl, hrest⟩ := hrel
    have HR := Lib.hid hrest
    clear hrest
    by_cases hlt : k < len
    · have hkl : k < l.length := by have := HLEN.out; omega
      obtain ⟨a, n, s, rfl, hx, c0, c1⟩ := HI.out.at_ hkl
      have HD := Lib.hid (drop_item hkl)
      have hs := HF.out k (by omega)
      rw [hx] at HD hs
      unfold maxLen at hs
      dsimp only at hs
      clear hx hkl
      by_cases hz : 1200 < s.size
      · have tz : decide ((1200 : Int) < (s.size : Int)) = true := by simp; omega
        have HE := Lib.hid (long_hit (x := (n, s)) (r := l.drop (k + 1)) hz)
        clear hz
        go_wp2
        go_ret
        exact ⟨by rw [← HR.out, HD.out, HE.out]; rfl, below_al _ _⟩
      · have tz : decide ((1200 : Int) < (s.size : Int)) = false := by simp; omega
        have HE := Lib.hid (long_miss (x := (n, s)) (r := l.drop (k + 1)) hz)
        clear hz
        go_wp2
        go_round
        case rel => exact ⟨k + 1, by omega, by go_num, by rw [← HR.out, HD.out, HE.out]⟩
        case measure => simp [intOf]; omega
    · have HE := Lib.hid (items_end (l := l) (k := k) (by have := HLEN.out; omega))
      go_wp2
      go_ret
      exact ⟨by rw [← HR.out, HE.out]; rfl, below_al _ _⟩
theorem mgreat_any (m : ByteArray) (A : Option Addr) (cap : Nat) (l : List Item) (w : World) (hI : Tlvs w A l) (hf : ∀ x ∈ l, x.2.size ≤ maxLen) :
    Calls Tryd.prog 15 #[.agg #[.string m, .slice A l.length cap]] w fun e w' => e = .returned (.bool (greatM m l)) ∧ Below w.heap.size w w' := by
  by_cases h : 100 < m.size
  · rw [greatM, decide_eq_true h, Bool.true_or, Bool.true_or]
    exact mgreat_m m A _ cap w h
  · by_cases h2 : 200 < l.length
    · rw [greatM, decide_eq_true h2, Bool.or_true, Bool.true_or]
      exact mgreat_n m A _ cap w h h2
    · rw [greatM, decide_eq_false h, decide_eq_false h2, Bool.false_or, Bool.false_or]
      exact mgreat_l m A cap l w hI hf h h2

set_option maxRecDepth 100000 in
set_option maxHeartbeats 1600000 in
theorem mget_any (m : ByteArray) (A : Option Addr) (cap : Nat) (l : List Item) (no : Int) (w : World) (hI : Tlvs w A l) (hn : l.length ≤ 1000) :
    Calls Tryd.prog 24 #[.agg #[.string m, .slice A l.length cap], .int .i64 no] w fun e w' => e = .returned (.tuple #[.string (findS l no), .bool (findB l no)]) ∧ Below w.heap.size w w' := by
  have HI := Lib.hid hI
  clear hI
  generalize hlen : l.length = len at *
  have HLEN := Lib.hid hlen
  clear hlen
  go_enter Tryd.func24, Tryd.ntmps24
  go_wp2
  go_loopw [11] (fun i wr => ∃ k : Nat, k ≤ len ∧ i = .int .i64 (k : Int) ∧ (∀ j, j < k → (itemAt l j).1 ≠ no) ∧ Below w.heap.size w wr) (fun i _ => len - (intOf i).toNat)
  case atStart => exact ⟨0, Nat.zero_le _, rfl, fun j hj => by omega, below_al _ _⟩
  case round =>
    obtain ⟨k, hk, rfl, hno, hb⟩ := hrel
    have HNO := Lib.hid hno
    have HB := Lib.hid hb
    clear hno hb
    by_cases hlt : k < len
    · have hkl : k < l.length := by have := HLEN.out; omega
      obtain ⟨a, z, s, rfl, hx, hc, hd⟩ := (HI.out.below HB.out).at_ hkl
      have HX := Lib.hid hx
      clear hx hkl
      by_cases hzt : z = no
      · have hzt' : (z == no) = true := by simpa using hzt
        have HF := Lib.hid (find_hit (l := l) (k := k) (t := no) (by have := HLEN.out; omega) HNO.out (by rw [HX.out]; exact hzt))
        rw [HX.out] at HF
        dsimp only at HF
        clear hzt
        go_wp2
        go_ret2
        exact ⟨by rw [HF.out.1, HF.out.2]; rfl, hbt HB.out (below_al _ _)⟩
      · have hzt' : (z == no) = false := by simpa using hzt
        have HZ := Lib.hid hzt
        clear hzt
        go_wp2
        go_roundw
        case rel =>
          refine ⟨k + 1, by omega, by go_num, fun j hj => ?_, hbt HB.out (below_al _ _)⟩
          rcases Nat.lt_or_ge j k with h | h
          · exact HNO.out j h
          · obtain rfl : j = k := by omega
            rw [HX.out]; exact HZ.out
        case measure => simp [intOf]; omega
    · have HF := Lib.hid (find_miss (l := l) (t := no) (fun j hj => HNO.out j (by have := HLEN.out; omega)))
      go_wp2
      go_ret2
      exact ⟨by rw [HF.out.1, HF.out.2]; rfl, HB.out⟩

set_option maxRecDepth 100000 in
set_option maxHeartbeats 1600000 in
theorem mfind_any (m : ByteArray) (A : Option Addr) (cap : Nat) (l : List Item) (no : Int) (w : World) (hI : Tlvs w A l) (hn : l.length ≤ 1000) :
    Calls Tryd.prog 42 #[.agg #[.string m, .slice A l.length cap], .int .i64 no] w fun e w' => e = .returned (.int .i64 (vfI no 0 l)) ∧ Below w.heap.size w w' := by
  have HI := Lib.hid (hI.below (below_al w (.cells #[.string m, .slice A l.length cap] 45)))
  clear hI
  generalize hlen : l.length = len at *
  have HLEN := Lib.hid hlen
  clear hlen
  generalize hR : vfI no 0 l = R
  have HR0 := Lib.hid hR
  clear hR
  go_enter Tryd.func42, Tryd.ntmps42
  go_wp2
  go_loop [5] (fun i => ∃ k : Nat, k ≤ len ∧ i = .int .i64 (k : Int) ∧ vfI no k (l.drop k) = R) (fun i => len - (intOf i).toNat)
  case atStart => exact ⟨0, Nat.zero_le _, rfl, HR0.out⟩
  case round =>
    obtain ⟨k, hk, rfl, hrest⟩ := hrel
    have HR := Lib.hid hrest
    clear hrest
    by_cases hlt : k < len
    · have hkl : k < l.length := by have := HLEN.out; omega
      obtain ⟨a, n, s, rfl, hx, c0, c1⟩ := HI.out.at_ hkl
      have HD := Lib.hid (drop_item hkl)
      rw [hx] at HD
      clear hx hkl
      by_cases hz : n = no
      · have tz : (n == no) = true := by simpa using hz
        have HE := Lib.hid (vfI_hit (i := k) (x := (n, s)) (r := l.drop (k + 1)) hz)
        clear hz
        go_wp2
        go_ret
        exact ⟨by rw [← HR.out, HD.out, HE.out]; rfl, below_al _ _⟩
      · have tz : (n == no) = false := by simpa using hz
        have HE := Lib.hid (vfI_miss (i := k) (x := (n, s)) (r := l.drop (k + 1)) hz)
        clear hz
        go_wp2
        go_round
        case rel => exact ⟨k + 1, by omega, by go_num, by rw [← HR.out, HD.out, HE.out]⟩
        case measure => simp [intOf]; omega
    · have HE := Lib.hid (items_end (l := l) (k := k) (by have := HLEN.out; omega))
      go_wp2
      go_ret
      exact ⟨by rw [← HR.out, HE.out]; rfl, below_al _ _⟩

set_option maxRecDepth 100000 in
set_option maxHeartbeats 1600000 in
theorem mplace_any (A : Option Addr) (cap : Nat) (l : List Item) (no : Int) (w : World) (hI : Tlvs w A l) (hn : l.length ≤ 5864062014700) :
    Calls Tryd.prog 61 #[.slice A l.length cap, .int .i64 no] w fun e w' => e = .returned (.int .i64 ((plcL no 0 l : Nat) : Int)) ∧ Below w.heap.size w w' := by
  have HI := Lib.hid hI
  clear hI
  generalize hlen : l.length = len at *
  have HLEN := Lib.hid hlen
  clear hlen
  generalize hR : plcL no 0 l = R
  have HR0 := Lib.hid hR
  clear hR
  go_enter Tryd.func61, Tryd.ntmps61
  go_wp2
  go_loopw [9] (fun i wr => ∃ k : Nat, k ≤ len ∧ i = .int .i64 (k : Int) ∧ plcL no k (l.drop k) = R ∧ Below w.heap.size w wr) (fun i _ => len - (intOf i).toNat)
  case atStart => exact ⟨0, Nat.zero_le _, rfl, HR0.out, Below.refl _ _⟩
  case round =>
    obtain ⟨k, hk, rfl, hrest, hb⟩ := hrel
    have HR := Lib.hid hrest
    have HB := Lib.hid hb
    clear hrest hb
    by_cases hlt : k < len
    · have hkl : k < l.length := by have := HLEN.out; omega
      obtain ⟨a, n, s, rfl, hx, c0, c1⟩ := (HI.out.below HB.out).at_ hkl
      have HD := Lib.hid (drop_item hkl)
      rw [hx] at HD
      clear hx hkl
      by_cases hz : no < n
      · have tz : decide (no < n) = true := by simpa using hz
        have HE := Lib.hid (plc_hit (i := k) (x := (n, s)) (r := l.drop (k + 1)) hz)
        clear hz
        go_wp2
        go_ret
        exact ⟨by rw [← HR.out, HD.out, HE.out]; rfl, hbt HB.out (below_al _ _)⟩
      · have tz : decide (no < n) = false := by simpa using hz
        have HE := Lib.hid (plc_miss (i := k) (x := (n, s)) (r := l.drop (k + 1)) hz)
        clear hz
        go_wp2
        go_roundw
        case rel => exact ⟨k + 1, by omega, by go_num, by rw [← HR.out, HD.out, HE.out], hbt HB.out (below_al _ _)⟩
        case measure => simp [intOf]; omega
    · have HE := Lib.hid (items_end (l := l) (k := k) (by have := HLEN.out; omega))
      have hke : k = len := by omega
      subst hke
      go_wp2
      go_ret
      exact ⟨by rw [← HR.out, HE.out]; rfl, HB.out⟩

end Go.Proofs.YtnbllngljgmebaaDoor

/-
  What With answers: for every message of up to 5,864,062,014,700 fields, in every world. ('copy' of structs of two cells, into a row of the call's own.)
-/
namespace Go.Proofs.YtnbllngljgmebaaDoor
open Go.RowKit

theorem run_copy_two (w : World) (ty : TypeId) (g o dLen dCap : Nat) (a : Addr) (sLen sCap : Nat) (cur : Array Value) (t : TypeId) (cs : List Value) (n : Nat)
    (hg : w.heap[g]? = some (.cells cur t (0, 0))) (hn : Nat.min sLen dLen = n) (hcs : cs.length = n * 2)
    (hsrc : ∀ j v, cs[j]? = some v → w.cell? (a.add j) = some v) (hfit : o + cs.length ≤ cur.size) (h1 : ∀ v ∈ cs, v.oneCell' = true) :
    (Builtin.copy_ #[43, 43] ty #[.slice (some ⟨g, o, none⟩) dLen dCap, .slice (some a) sLen sCap]).run Tryd.prog w =
      .ok (goInt n) (w.setRow g (cur.toList.take o ++ cs ++ cur.toList.drop (o + cs.length)).toArray) := by
  have hl := run_loadCells_list (P := Tryd.prog) w a cs hsrc
  have hst := run_storeCells_at Tryd.prog g o t cs 0 cur w hg (by simpa using hfit) h1
  obtain ⟨i0, hi, hz0, hz1, hz2⟩ := info_parts Tryd.infoVal
  rw [hcs] at hl
  simp [Builtin.copy_, run_underlying Tryd.underlying43, Builtin.lenOf, Builtin.firstCells, sizeOf, typeInfo, hi, hz1, hn, hl, hst]
theorem run_copy_zero (w : World) (ty : TypeId) (d a : Option Addr) (dLen dCap sLen sCap : Nat) (hn : Nat.min sLen dLen = 0) :
    (Builtin.copy_ #[43, 43] ty #[.slice d dLen dCap, .slice a sLen sCap]).run Tryd.prog w = .ok (goInt 0) w := by
  obtain ⟨i0, hi, hz0, hz1, hz2⟩ := info_parts Tryd.infoVal
  have hl : ∀ (x : Addr), (loadCells x 0).run Tryd.prog w = .ok #[] w := fun x => by simpa using run_loadCells_list (P := Tryd.prog) w x [] (by simp)
  cases d <;> cases a <;> simp [Builtin.copy_, run_underlying Tryd.underlying43, Builtin.lenOf, Builtin.firstCells, sizeOf, typeInfo, hi, hn, storeCells, hl]
/-- 'copy(dst, src)' of values, dst in a row that is known whole. -/
theorem wp_copy_two {o : Oper} {a : Act} {w : World} {K : Act → World → Prop} {Q : Exit → Act → World → Prop} (d s : Operand)
    (ho : o.op = .call { callee := .builtin .copy, args := #[d, s], argTypes := #[43, 43] })
    (dp sp : Option Addr) (dLen dCap sLen sCap : Nat) (hd : a.eval d = .slice dp dLen dCap) (hs : a.eval s = .slice sp sLen sCap)
    (g off : Nat) (cur : List Value) (t : TypeId) (hg : w.heap[g]? = some (.cells cur.toArray t (0, 0))) (cs : List Value) (n : Nat) (hn : Nat.min sLen dLen = n) (hcs : cs.length = n * 2)
    (hpos : 0 < n → dp = some ⟨g, off, none⟩ ∧ ∃ ad, sp = some ad ∧ ∀ j v, cs[j]? = some v → w.cell? (ad.add j) = some v)
    (hfit : off + cs.length ≤ cur.length) (h1 : ∀ v ∈ cs, v.oneCell' = true) (B : Nat) (w0 : World) (hb : Below B w0 w) (hBg : B ≤ g)
    (h : ∀ w', Hid (w'.heap[g]? = some (.cells (splice cur off cs).toArray t (0, 0))) → Below B w0 w' → K (a.put o.dst (goInt n)) w') : o.wp Tryd.prog a w K Q := by
  by_cases h0 : n = 0
  · subst h0
    obtain rfl : cs = [] := List.eq_nil_of_length_eq_zero (by omega)
    have hrun := run_copy_zero w o.type dp sp dLen dCap sLen sCap hn
    unfold Oper.wp
    simp [execOp, ho, resolve, invoke, builtin, hd, hs, hrun, Result.andThen]
    exact h w (show _ = _ by simpa [splice] using hg) hb
  · obtain ⟨rfl, ad, rfl, hsrc⟩ := hpos (by omega)
    have hrun := run_copy_two w o.type g off dLen dCap ad sLen sCap cur.toArray t cs n hg hn hcs hsrc (by simpa using hfit) h1
    unfold Oper.wp
    simp [execOp, ho, resolve, invoke, builtin, hd, hs, hrun, Result.andThen]
    exact h _ (show _ = _ by simpa [splice] using setRow_heap w g _ _ t _ hg) (below_setRow hb hBg _)
theorem wpList_copy_two {ops : Array Oper} {rest : List Oper} {o : Oper} {a : Act} {w : World} {Q : Exit → Act → World → Prop} (hgd : o.guard = none) (d s : Operand)
    (ho : o.op = .call { callee := .builtin .copy, args := #[d, s], argTypes := #[43, 43] })
    (dp sp : Option Addr) (dLen dCap sLen sCap : Nat) (hd : a.eval d = .slice dp dLen dCap) (hs : a.eval s = .slice sp sLen sCap)
    (g off : Nat) (cur : List Value) (t : TypeId) (hg : w.heap[g]? = some (.cells cur.toArray t (0, 0))) (cs : List Value) (n : Nat) (hn : Nat.min sLen dLen = n) (hcs : cs.length = n * 2)
    (hpos : 0 < n → dp = some ⟨g, off, none⟩ ∧ ∃ ad, sp = some ad ∧ ∀ j v, cs[j]? = some v → w.cell? (ad.add j) = some v)
    (hfit : off + cs.length ≤ cur.length) (h1 : ∀ v ∈ cs, v.oneCell' = true) (B : Nat) (w0 : World) (hb : Below B w0 w) (hBg : B ≤ g)
    (h : ∀ w', Hid (w'.heap[g]? = some (.cells (splice cur off cs).toArray t (0, 0))) → Below B w0 w' → wpList Tryd.prog ops Q rest (a.put o.dst (goInt n)) w') : wpList Tryd.prog ops Q (o :: rest) a w :=
  wpList_plain hgd fun _ hK => wp_copy_two d s ho dp sp dLen dCap sLen sCap hd hs g off cur t hg cs n hn hcs hpos hfit h1 B w0 hb hBg fun w' h2 h3 => hK _ _ (h w' h2 h3)

/-- 'r[:p]' and 'r[p:]' of a slice of values. -/
theorem cut_head (A : Option Addr) (n cap p : Nat) (hp : p ≤ cap) (W : World) : (Instr.slice 43 (.slice A n cap) none (some (.int .i64 (p : Int))) none).run Tryd.prog W = .ok (.slice A p cap) W := by
  obtain ⟨i0, hi, hz0, hz1, hz2⟩ := info_parts Tryd.infoVal
  rw [run_slice_h W 43 A n cap (by kernel_rfl) .i64 (p : Int) (by omega) (by omega), show Tryd.prog.elem 43 = 63 by kernel_rfl, run_sizeOf W hi]
  cases A <;> simp [sliced, Result.andThen, Addr.add]
theorem cut_tail (A : Option Addr) (n cap p : Nat) (hp : p ≤ n) : ∃ X Y, (∀ W : World, (Instr.slice 43 (.slice A n cap) (some (.int .i64 (p : Int))) none none).run Tryd.prog W = .ok (.slice X (n - p) Y) W) ∧ (p < cap → ∀ a, A = some a → X = some (a.add (p * 2))) := by
  obtain ⟨i0, hi, hz0, hz1, hz2⟩ := info_parts Tryd.infoVal
  refine ⟨if cap = p then A else A.map (·.add (p * 2)), cap - p, fun W => ?_, fun h a ha => ?_⟩
  · rw [run_slice_l W 43 A n cap (by kernel_rfl) .i64 (p : Int) (by omega) (by omega), show Tryd.prog.elem 43 = 63 by kernel_rfl, run_sizeOf W hi, show Tryd.prog.cellsOf 63 = 2 by kernel_rfl]
    simp [sliced, Result.andThen]
  · rw [if_neg (by omega), ha]; rfl
theorem made_length (n : Nat) : (madeCells #[.int .i64 0, .string ⟨#[]⟩] n).toList.length = n := by simp [madeCells]
theorem owns_full {w : World} {base e size g n : Nat} {xs : List Value} (h : w.ownsRow base e size (.slice (some ⟨g, 0, none⟩) n n) n xs) : w.heap[g]? = some (.cells xs.toArray e (0, 0)) := by
  rcases h.2 with ⟨h1, _⟩ | ⟨g', cap, cur, h1, _, h3, _, _, h5, h6⟩
  · cases h1
  · injection h1 with h1 _ h2
    injection h1 with h1
    injection h1 with h1
    subst h1
    subst h2
    rw [List.take_of_length_le (by simp [h5])] at h6
    rw [h3, ← h6]
theorem items_app (a b : List Item) : itemsC (a ++ b) = itemsC a ++ itemsC b := by simp [itemsC]
theorem set_two (a b : List Value) (x y u v : Value) (k : Nat) (hk : a.length = k) : ((a ++ x :: y :: b).set k u).set (k + 1) v = a ++ u :: v :: b := by
  subst hk
  induction a with
  | nil => rfl
  | cons z r ih => simp
/-- A row that is filled: what stands ahead, a value, what stands behind. -/
theorem row_filled (Z : List Value) (r : List Item) (x : Item) (p : Nat) (hp : p ≤ r.length) (hZ : Z.length = (r.length + 1) * 2) :
    splice (((splice Z 0 (itemsC (r.take p))).set (p * 2) (.int .i64 x.1)).set (p * 2 + 1) (.string x.2)) ((p + 1) * 2) (itemsC (r.drop p)) = itemsC (r.take p ++ x :: r.drop p) := by
  have hX1 : (itemsC (r.take p)).length = p * 2 := by rw [itemsC_length, List.length_take, Nat.min_eq_left hp]
  have hX2 : (itemsC (r.drop p)).length = (r.length - p) * 2 := by rw [itemsC_length, List.length_drop]
  have e1 : splice Z 0 (itemsC (r.take p)) = itemsC (r.take p) ++ Z.drop (p * 2) := by simp [splice, hX1]
  obtain ⟨u, v, b, hb⟩ : ∃ u v b, Z.drop (p * 2) = u :: v :: b := by
    have hl : 2 ≤ (Z.drop (p * 2)).length := by rw [List.length_drop]; omega
    match Z.drop (p * 2), hl with
    | u :: v :: b, _ => exact ⟨u, v, b, rfl⟩
  have hbl : b.length = (r.length - p) * 2 := by
    have := congrArg List.length hb
    rw [List.length_drop] at this
    simp at this
    omega
  rw [e1, hb, set_two _ _ _ _ _ _ _ hX1]
  have e2 : itemsC (r.take p ++ x :: r.drop p) = itemsC (r.take p) ++ (.int .i64 x.1 :: .string x.2 :: itemsC (r.drop p)) := by rw [items_app]; rfl
  rw [e2, splice, hX2]
  have e3 : (itemsC (r.take p) ++ .int .i64 x.1 :: .string x.2 :: b).take ((p + 1) * 2) = itemsC (r.take p) ++ [.int .i64 x.1, .string x.2] := by
    rw [List.take_append, List.take_of_length_le (by omega), hX1, show (p + 1) * 2 - p * 2 = 2 by omega]
    rfl
  have e4 : (itemsC (r.take p) ++ .int .i64 x.1 :: .string x.2 :: b).drop ((p + 1) * 2 + (r.length - p) * 2) = [] := by
    apply List.drop_eq_nil_of_le
    simp [hX1, hbl]
    omega
  rw [e3, e4]
  simp
theorem splice_len (Z : List Value) (off : Nat) (cs : List Value) (h : off + cs.length ≤ Z.length) : (splice Z off cs).length = Z.length := length_splice Z off cs h
theorem row_two {w : World} {g : Nat} {Z : List Value} {t : TypeId} (hg : w.heap[g]? = some (.cells Z.toArray t (0, 0))) {k : Nat} (hk : k + 1 < Z.length) : ∃ q0 q1, w.cell? ⟨g, k, none⟩ = some q0 ∧ w.cell? ⟨g, k + 1, none⟩ = some q1 ∧ w.frozen? ⟨g, k, none⟩ = false ∧ w.frozen? ⟨g, k + 1, none⟩ = false := by
  refine ⟨Z[k], Z[k + 1], ?_, ?_, frozen_of_row w g k _ _ hg, frozen_of_row w g (k + 1) _ _ hg⟩
  · rw [cell_of_row _ _ _ _ _ _ hg]; simp [List.getElem?_eq_getElem (show k < Z.length by omega)]
  · rw [cell_of_row _ _ _ _ _ _ hg]; simp [List.getElem?_eq_getElem hk]
theorem row_put {w : World} {g : Nat} {Z : List Value} {t : TypeId} (hg : w.heap[g]? = some (.cells Z.toArray t (0, 0))) (k : Nat) (x y : Value) : ((w.setCell ⟨g, k, none⟩ x).setCell ⟨g, k + 1, none⟩ y).heap[g]? = some (.cells ((Z.set k x).set (k + 1) y).toArray t (0, 0)) := by
  have h1 := heap_setCell_same w g k _ t x hg
  have h2 := heap_setCell_same _ g (k + 1) _ t y h1
  rw [h2]
  simp
/-- A part of a slice's cells. -/
theorem vals_part {w : World} {a : Addr} {r : List Item} (h : Tlvs w (some a) r) (p : Nat) (_hp : p ≤ r.length) : (∀ j v, (itemsC (r.take p))[j]? = some v → w.cell? (a.add j) = some v) ∧ (∀ j v, (itemsC (r.drop p))[j]? = some v → w.cell? ((a.add (p * 2)).add j) = some v) := by
  have hn := tlvs_news h
  have e : itemsC r = itemsC (r.take p) ++ itemsC (r.drop p) := by rw [← items_app, List.take_append_drop]
  constructor
  · intro j v hv
    refine hn j v ?_
    rw [e, List.getElem?_append_left (List.getElem?_eq_some_iff.1 hv).1]
    exact hv
  · intro j v hv
    have hX1 : (itemsC (r.take p)).length = p * 2 := by rw [itemsC_length, List.length_take, Nat.min_eq_left _hp]
    have := hn (p * 2 + j) v (by rw [e, List.getElem?_append_right (by omega), hX1, show p * 2 + j - p * 2 = j by omega]; exact hv)
    rw [← this]
    congr 1
    unfold Addr.add
    by_cases h1 : p * 2 = 0
    · simp [h1]
    · by_cases h2 : j = 0
      · simp [h2]
      · simp [h1, h2]; omega

set_option maxRecDepth 100000 in
set_option maxHeartbeats 12800000 in
theorem mwith_any (m : ByteArray) (A : Option Addr) (cap : Nat) (l : List Item) (no : Int) (t : ByteArray) (w : World) (hI : Tlvs w A l) (hn : l.length ≤ 5864062014700) :
    Calls Tryd.prog 39 #[.agg #[.string m, .slice A l.length cap], .int .i64 no, .string t] w fun e w' => ∃ A' cap', e = .returned (.agg #[.string m, .slice A' (withL no t l).length cap']) ∧ Tlvs w' A' (withL no t l) ∧ Below w.heap.size w w' := by
  obtain ⟨i0, hi, hz0, hz1, hz2⟩ := info_parts Tryd.infoVal
  have HQ := Lib.hid (fun W hW => mothers_any A cap l no W hW (by omega))
  have hrl : (outL no l).length ≤ 5864062014700 := Nat.le_trans (out_length no l) hn
  have HP := Lib.hid (fun A' c' W hW => mplace_any A' c' (outL no l) no W hW (by omega))
  have hpl := plc_le no (outL no l)
  have HWL : Hid (withL no t l = (outL no l).take (plcL no 0 (outL no l)) ++ (no, t) :: (outL no l).drop (plcL no 0 (outL no l))) := rfl
  have HWN : Hid ((withL no t l).length = (outL no l).length + 1) := ins_length _ _
  generalize hlen : l.length = len at *
  clear hlen
  have HC := Lib.hid (mcopies_new w m A len cap)
  have HRM : Hid (MBox ((w.alloc (.cells #[.string m, .slice A len cap] 45)).alloc (.cells #[.string ⟨#[]⟩, .slice none 0 0] 45)) (w.heap.size + 1) ⟨#[]⟩ none 0 0) := heap_al _ _ _ (by simp)
  have HI := Lib.hid (hI.below HC.out.1)
  clear hI
  generalize outL no l = r at *
  generalize plcL no 0 r = p at *
  generalize hrn : r.length = rn at *
  have HRN := Lib.hid hrn
  clear hrn
  go_enter Tryd.func39, Tryd.ntmps39
  go_wp2_with fail
  generalize (w.alloc (.cells #[.string m, .slice A len cap] 45)).alloc (.cells #[.string ⟨#[]⟩, .slice none 0 0] 45) = U at *
  refine (HQ.out _ HI.out).mono ?_
  rintro e w1 ⟨A1, c1, rfl, hc1, ht1, hb1⟩
  have HT1 := Lib.hid ht1
  have HC1 := Lib.hid (HC.out.below hb1)
  have HR1 := Lib.hid (HRM.out.below hb1)
  clear ht1 hb1 HQ HI HC HRM
  go_wp2_with fail
  refine (HP.out _ _ _ HT1.out).mono ?_
  rintro e w2 ⟨rfl, hb2⟩
  have HT2 := Lib.hid (HT1.out.below hb2)
  have HC2 := Lib.hid (HC1.out.below hb2)
  have HR2 := Lib.hid (HR1.out.below hb2)
  clear hb2 HT1 HC1 HR1 HP
  go_wp2_with (at_make; refine wpList_make_full _ rfl _ _ 43 rfl w2.heap.size 63 i0 (.agg #[.int .i64 0, .string ⟨#[]⟩]) 2 Tryd.underlying43 hi hz0 hz1 _ _ _ _ (rn + 1) rfl rfl (by go_num) (by go_num) ?b2 ?b3 ?b4 ?_)
  case b2 => rw [hz2]; omega
  case b3 => unfold maxLen; omega
  case b4 => exact Nat.le_refl _
  intro w3 hown hg
  have hb3 : Below w2.heap.size w2 w3 := (Below.refl _ _).grown hg (Nat.le_refl _) (by simp)
  have HG3 := Lib.hid (owns_full hown)
  have HZL : Hid ((madeCells #[.int .i64 0, .string ⟨#[]⟩] ((rn + 1) * 2)).toList.length = (rn + 1) * 2) := made_length _
  generalize (madeCells #[.int .i64 0, .string ⟨#[]⟩] ((rn + 1) * 2)).toList = Z at *
  have HB3 := Lib.hid hb3
  clear hown hg hb3
  have hcut1 := cut_head A1 rn c1 p (by omega)
  have HS1 : Hid (∀ u, Below w2.heap.size w2 u → 0 < p → ∃ ad, A1 = some ad ∧ ∀ j v, (itemsC (r.take p))[j]? = some v → u.cell? (ad.add j) = some v) := fun u hu hp0 => by
    obtain ⟨a, ha, _⟩ := (HT2.out.below hu) 0 (by have := HRN.out; omega)
    have ht := HT2.out.below hu
    rw [ha] at ht
    exact ⟨a, ha, (vals_part ht p (by have := HRN.out; omega)).1⟩
  have HS2 : Hid (∀ u, Below w2.heap.size w2 u → p < rn → ∃ ad, A1 = some ad ∧ ∀ j v, (itemsC (r.drop p))[j]? = some v → u.cell? ((ad.add (p * 2)).add j) = some v) := fun u hu hp0 => by
    obtain ⟨a, ha, _⟩ := (HT2.out.below hu) 0 (by have := HRN.out; omega)
    have ht := HT2.out.below hu
    rw [ha] at ht
    exact ⟨a, ha, (vals_part ht p (by have := HRN.out; omega)).2⟩
  have HX1 : Hid ((itemsC (r.take p)).length = p * 2) := by show _ = _; rw [itemsC_length, List.length_take, HRN.out, Nat.min_eq_left hpl]
  have HX2 : Hid ((itemsC (r.drop p)).length = (rn - p) * 2) := by show _ = _; rw [itemsC_length, List.length_drop, HRN.out]
  have HFL := Lib.hid (fun h1 h2 => row_filled Z r (no, t) p h1 h2)
  have HO1 := Lib.hid (items_one (r.take p))
  have HO2 := Lib.hid (items_one (r.drop p))
  rw [← HWL.out] at HFL
  generalize hw : itemsC (withL no t l) = WI at *
  have HWI := Lib.hid hw
  clear hw HWL
  generalize itemsC (r.take p) = X1 at *
  generalize itemsC (r.drop p) = X2 at *
  dsimp only at HFL
  go_wp2_with (refine wpList_copy_two rfl (.tmp 21) (.tmp 24) rfl (some ⟨w2.heap.size, 0, none⟩) A1 (rn + 1) (rn + 1) p c1 rfl rfl w2.heap.size 0 Z 63 HG3.out X1 p (by show min p (rn + 1) = p; omega) HX1.out (fun hp0 => ⟨rfl, HS1.out _ HB3.out hp0⟩) (by rw [HX1.out, HZL.out]; omega) HO1.out w2.heap.size w2 HB3.out (Nat.le_refl _) ?_; intro w4 HG4 hb4; have HB4 := Lib.hid hb4; have HL4 : Hid ((splice Z 0 X1).length = (rn + 1) * 2) := Lib.hid ((splice_len _ _ _ (by rw [HX1.out, HZL.out]; omega)).trans HZL.out); obtain ⟨q0, q1, g0, g1, f0, f1⟩ := row_two HG4.out (k := p * 2) (by rw [HL4.out]; omega); clear hb4)
  have HB5 : Hid (Below w2.heap.size w2 ((w4.setCell ⟨w2.heap.size, p * 2, none⟩ (.int .i64 no)).setCell ⟨w2.heap.size, p * 2 + 1, none⟩ (.string t))) := (HB4.out.setCell (p := ⟨w2.heap.size, p * 2, none⟩) (Nat.le_refl _) _).setCell (p := ⟨w2.heap.size, p * 2 + 1, none⟩) (Nat.le_refl _) _
  have HG5 := Lib.hid (row_put HG4.out (p * 2) (.int .i64 no) (.string t))
  clear g0 g1 f0 f1 HG4 HB4 HG3 HB3 hcut1
  generalize (w4.setCell _ _).setCell _ _ = W5 at *
  have HL5 : Hid ((((splice Z 0 X1).set (p * 2) (.int .i64 no)).set (p * 2 + 1) (.string t)).length = (rn + 1) * 2) := by show _ = _; rw [List.length_set, List.length_set]; exact HL4.out
  generalize (((splice Z 0 X1).set (p * 2) (.int .i64 no)).set (p * 2 + 1) (.string t)) = Z5 at *
  obtain ⟨q, hq⟩ : ∃ q : Nat, q = p + 1 := ⟨_, rfl⟩
  obtain ⟨XA, YA, hcutA, hXA⟩ := cut_tail (some ⟨w2.heap.size, 0, none⟩) (rn + 1) (rn + 1) q (by omega)
  obtain ⟨XB, YB, hcutB, hXB⟩ := cut_tail A1 rn c1 p hpl
  have HXA := Lib.hid hXA
  have HXB := Lib.hid hXB
  have HQQ := Lib.hid hq
  clear hXA hXB hq
  refine wp_region_noPanic ?_
  refine wp_region_held_drew (S := (fun _ => True)) (by kernel_rfl) (trivial) (fun hS => ?_)
  refine gv 0 (v := ?_) (fun u hu => ?_) hS ?_
  rotate_left
  · (skip; go_simp; try (with_reducible rfl))
  try simp only [puts]
  refine gv 1 (v := ?_) (fun u hu => ?_) hS ?_
  rotate_left
  · (skip; go_simp; try (with_reducible rfl))
  try simp only [puts]
  refine gv 2 (v := (.int .i64 (q : Int))) (fun u hu => ?_) hS ?_
  · (skip; go_simp; (have hq := HQQ.out; first | omega | (rw [IntWalk.i64_in _ (by omega)]; omega)))
  try simp only [puts]
  refine gv 3 (v := ?_) (fun u hu => ?_) hS ?_
  rotate_left
  · (skip; go_simp; try (with_reducible rfl))
  try simp only [puts]
  refine gv 4 (v := ?_) (fun u hu => ?_) hS ?_
  rotate_left
  · (skip; go_simp; try (with_reducible rfl))
  try simp only [puts]
  refine gv 5 (v := ?_) (fun u hu => ?_) hS ?_
  rotate_left
  · (skip; go_simp; try (with_reducible rfl))
  try simp only [puts]
  refine gv 6 (v := ?_) (fun u hu => ?_) hS ?_
  rotate_left
  · (skip; go_simp; try (with_reducible rfl))
  try simp only [puts]
  refine only (i := 7) rfl (by kernel_rfl) (by rfl) (fun K hK => ?_)
  refine wp_copy_two _ _ (by rfl) XA XB (rn + 1 - q) YA (rn - p) YB (by rfl) (by rfl) w2.heap.size ((p + 1) * 2) Z5 63 HG5.out X2 (rn - p) (by have := HQQ.out; show min (rn - p) (rn + 1 - q) = rn - p; omega) HX2.out (fun hp0 => ?h1) (by rw [HX2.out, HL5.out]; omega) HO2.out w2.heap.size w2 HB5.out.drew (Nat.le_refl _) ?_
  case h1 =>
    have hq := HQQ.out
    obtain ⟨ad, ha, hcs⟩ := HS2.out _ HB5.out.drew (by omega)
    refine ⟨?_, ad.add (p * 2), HXB.out (by omega) ad ha, hcs⟩
    rw [HXA.out (by omega) _ rfl, hq, Addr.add_lit, Nat.zero_add]
  intro w6 HG6 hb6
  have HB6 := Lib.hid hb6
  clear hb6
  refine hK.out _ _ trivial ?_
  clear hK
  try simp only [puts]
  refine wpAnyH_done (by kernel_rfl) (NoPanic.normal ?_) _
  rw [HFL.out (by rw [HRN.out]; exact hpl) (by rw [HRN.out]; exact HZL.out)] at HG6
  have HT6 : Hid (Tlvs w6 (some ⟨w2.heap.size, 0, none⟩) (withL no t l)) := vals_row HG6.out (by rw [← HWI.out])
  obtain ⟨b0, b1, _, _⟩ := obj_cells (HC2.out.below HB6.out).2.1
  have HR6 := Lib.hid (HR2.out.below HB6.out)
  obtain ⟨r0, r1, f0, f1⟩ := obj_cells HR6.out
  have HBW := Lib.hid (HC2.out.below HB6.out).1
  go_wp2
  refine bodyPost_ret (results_cell_row rfl _ _ (w.heap.size + 1) _ _ _ _ rfl (obj_set2 HR6.out _ _) Tryd.underlying45 rfl (by kernel_rfl)) rfl ?_
  exact ⟨some ⟨w2.heap.size, 0, none⟩, rn + 1, by rw [HWN.out], vals_store2 HT6.out HR6.out _ _ _ _, below_set2 HBW.out (by omega) _ _⟩

end Go.Proofs.YtnbllngljgmebaaDoor

/-
  What the document's Without and With answer: for every message of up to 1000 fields, in every world.
-/
namespace Go.Proofs.YtnbllngljgmebaaDoor
open Go.RowKit

/-- Of the elder blocks none but g has changed. -/
def KeepX (U : World) (g : Nat) (u : World) : Prop := U.heap.size ≤ u.heap.size ∧ ∀ b, b < U.heap.size → b ≠ g → u.heap[b]? = U.heap[b]?
theorem KeepX.step {U u u' : World} {g : Nat} (h : KeepX U g u) (hb : Below U.heap.size u u') : KeepX U g u' := ⟨Nat.le_trans h.1 hb.size, fun b h1 h2 => (hb.block b h1).trans (h.2 b h1 h2)⟩
theorem KeepX.obj {U u : World} {g b : Nat} {O : Obj} (h : KeepX U g u) (ho : U.heap[b]? = some O) (hne : b ≠ g) : u.heap[b]? = some O := (h.2 b (obj_lt ho) hne).trans ho
theorem KeepX.set {U u : World} {g : Nat} (h : KeepX U g u) (i : Nat) (x : Value) : KeepX U g (u.setCell ⟨g, i, none⟩ x) :=
  ⟨Nat.le_trans h.1 (by simp), fun b h1 h2 => (heap_setCell_other _ _ _ _ h2).trans (h.2 b h1 h2)⟩
theorem KeepX.vals {U u : World} {g : Nat} {A : Option Addr} {l : List Item} {m : ByteArray} {X : Option Addr} {n c : Nat} {t : TypeId} (h : KeepX U g u) (ht : Tlvs U A l) (hg : U.heap[g]? = some (.cells #[.string m, .slice X n c] t)) : Tlvs u A l := by
  intro i hi
  have hap := vals_apart ht (by omega) hg
  obtain ⟨a, ha, h0, h1⟩ := ht i hi
  have hab : (a.add (i * 2)).block = a.block := by unfold Addr.add; split <;> rfl
  have hlt : a.block < U.heap.size := by rw [← hab]; exact block_lt_of_cell h0
  have hc : ∀ q : Addr, q.block = a.block → u.cell? q = U.cell? q := fun q hq => World.cell?_of_block (by rw [hq]; exact h.2 _ hlt (hap a ha))
  exact ⟨a, ha, (hc _ hab).trans h0, (hc ⟨_, (a.add (i * 2)).off + 1, none⟩ hab).trans h1⟩
/-- What the loops keep: the list so far, in the wanted message's block and a row of the call's own. -/
def MWants (w U : World) (g : Nat) (m : ByteArray) (ks : List Item) (u : World) : Prop :=
  ∃ (Y : Option Addr) (cp : Nat), MBox u g m Y ks.length cp ∧ u.ownsRow U.heap.size 63 2 (.slice Y ks.length cp) ks.length (itemsC ks) ∧ KeepX U g u ∧ Below w.heap.size w u
theorem mwants_new {w U : World} {g : Nat} {m : ByteArray} (hg : MBox U g m none 0 0) (hb : Below w.heap.size w U) : MWants w U g m [] U :=
  ⟨none, 0, hg, World.ownsRow_nil _ _ _ _, ⟨Nat.le_refl _, fun _ _ _ => rfl⟩, hb⟩
theorem mwants_put {w U : World} {g : Nat} {m : ByteArray} {ks : List Item} {n : Int} {s : ByteArray} {g' cap' M : Nat} {u : World} {Y : Option Addr} {cp : Nat} (hg : g < U.heap.size) (hw : w.heap.size ≤ g) (hM : ks.length = M) (hx : MBox u g m Y M cp)
    (ho : u.ownsRow U.heap.size 63 2 (.slice (some ⟨g', 0, none⟩) (M + 1) cap') (M + 1) (itemsC ks ++ itemC (n, s))) (hk : KeepX U g u) (hb : Below w.heap.size w u) :
    MWants w U g m (ks ++ [(n, s)]) (u.setCell ⟨g, 1, none⟩ (.slice (some ⟨g', 0, none⟩) (M + 1) cap')) := by
  refine ⟨some ⟨g', 0, none⟩, cap', ?_, ?_, hk.set _ _, hb.setCell (p := ⟨g, 1, none⟩) hw _⟩
  · rw [List.length_append, hM]; exact heap_setCell_same _ g 1 _ _ _ hx
  · rw [itemsC_snoc, List.length_append, hM]; exact owns_set1 ho hg _ _

set_option maxRecDepth 100000 in
set_option maxHeartbeats 6400000 in
theorem mrwithout_any (m : ByteArray) (A : Option Addr) (cap : Nat) (l : List Item) (no : Int) (w : World) (hI : Tlvs w A l) (hn : l.length ≤ 1000) :
    Calls Tryd.prog 64 #[.agg #[.string m, .slice A l.length cap], .int .i64 no] w fun e w' => ∃ A' cap', e = .returned (.agg #[.string m, .slice A' (outL no l).length cap']) ∧ Tlvs w' A' (outL no l) ∧ Below w.heap.size w w' := by
  obtain ⟨i0, hi, hz0, hz1, hz2⟩ := info_parts Tryd.infoVal
  have HKN := Lib.hid (out_part no l)
  generalize hlen : l.length = len at *
  have HLEN := Lib.hid hlen
  have HBU := Lib.hid (hbt (hbt (below_al w (.cells #[.string m, .slice A len cap] 45)) (below_al _ (.cells #[.string ⟨#[]⟩, .slice none 0 0] 45))) (below_al _ (.cells #[.string m, .slice none 0 0] 45)))
  have HXU := Lib.hid (((mbox_new w m A len cap).below (below_al _ (.cells #[.string ⟨#[]⟩, .slice none 0 0] 45))).below (below_al _ (.cells #[.string m, .slice none 0 0] 45)))
  have HRU : Hid (MBox (((w.alloc (.cells #[.string m, .slice A len cap] 45)).alloc (.cells #[.string ⟨#[]⟩, .slice none 0 0] 45)).alloc (.cells #[.string m, .slice none 0 0] 45)) (w.heap.size + 1) ⟨#[]⟩ none 0 0) := obj_below (heap_al _ _ _ (by simp)) (below_al _ _)
  have HGO : Hid (MBox (((w.alloc (.cells #[.string m, .slice A len cap] 45)).alloc (.cells #[.string ⟨#[]⟩, .slice none 0 0] 45)).alloc (.cells #[.string m, .slice none 0 0] 45)) (w.heap.size + 2) m none 0 0) := heap_al _ _ _ (by simp)
  have HTU := Lib.hid (hI.below HBU.out)
  have HWU : Hid (w.heap.size ≤ (((w.alloc (.cells #[.string m, .slice A len cap] 45)).alloc (.cells #[.string ⟨#[]⟩, .slice none 0 0] 45)).alloc (.cells #[.string m, .slice none 0 0] 45)).heap.size) := HBU.out.size
  have HGU := Lib.hid (obj_lt HGO.out)
  have HNE : Hid (w.heap.size ≠ w.heap.size + 2) := by show _ ≠ _; omega
  clear hlen hI
  go_enter Tryd.func64, Tryd.ntmps64
  go_wp2_with fail
  generalize ((w.alloc (.cells #[.string m, .slice A len cap] 45)).alloc (.cells #[.string ⟨#[]⟩, .slice none 0 0] 45)).alloc (.cells #[.string m, .slice none 0 0] 45) = U at *
  go_loopw [6] (fun i wr => ∃ k : Nat, k ≤ len ∧ i = .int .i64 (k : Int) ∧ MWants w U (w.heap.size + 2) m (outL no (l.take k)) wr) (fun i _ => len - (intOf i).toNat)
  case atStart => exact ⟨0, Nat.zero_le _, rfl, mwants_new HGO.out HBU.out⟩
  case round =>
    obtain ⟨k, hk, rfl, Y, cp, hbox, hown, hkeep, hb⟩ := hrel
    have HX := Lib.hid hbox
    have HO := Lib.hid hown
    have HK := Lib.hid hkeep
    have HB := Lib.hid hb
    have HXI : Hid (MBox wr w.heap.size m A len cap) := hkeep.obj HXU.out HNE.out
    have HT := Lib.hid (hkeep.vals HTU.out HGO.out)
    obtain ⟨x0, x1, _, _⟩ := obj_cells hbox
    obtain ⟨x2, x3, _, _⟩ := obj_cells HXI.out
    clear hown hbox hb hkeep
    by_cases hlt : k < len
    · have hkl : k < l.length := by have := HLEN.out; omega
      obtain ⟨a, n, s, rfl, hx, c0, c1⟩ := HT.out.at_ hkl
      have hst : outL no (l.take (k + 1)) = outL no (l.take k) ++ (if n = no then [] else [(n, s)]) := by rw [take_succ_item hkl, out_snoc, hx]
      have hkn := HKN.out k
      have HIT := Lib.hid hx
      have HKL := Lib.hid hkl
      clear hx hkl
      by_cases hz : n = no
      · have tz : (n != no) = false := by simpa using hz
        have HST := Lib.hid (hst.trans (by rw [if_pos hz, List.append_nil] : _ = outL no (l.take k)))
        clear hst hkn hz
        go_wp2
        go_roundw
        case rel => exact ⟨k + 1, by omega, by go_num, by rw [HST.out]; exact ⟨Y, cp, HX.out, HO.out, HK.out, HB.out⟩⟩
        case measure => simp [intOf]; omega
      · have tz : (n != no) = true := by simpa using hz
        have HST := Lib.hid (hst.trans (by rw [if_neg hz] : _ = outL no (l.take k) ++ [(n, s)]))
        clear hst hz
        generalize hkl : outL no (l.take k) = ks at *
        clear hkl
        generalize hm : ks.length = M at *
        have HMM := Lib.hid hm
        clear hm
        go_wp2_with fail
        clear x0 x1 x2 x3
        refine wp_region_noPanic ?_
        refine wp_region_late (fun u => MBox u (w.heap.size + 2) m Y M cp ∧ MBox u w.heap.size m (some a) len cap ∧ u.cell? (a.add (k * 2)) = some (.int .i64 n) ∧ u.cell? ⟨(a.add (k * 2)).block, (a.add (k * 2)).off + 1, none⟩ = some (.string s)) 10 (by kernel_rfl) ((show MBox wr (w.heap.size + 2) m Y M cp ∧ MBox wr w.heap.size m (some a) len cap ∧ wr.cell? (a.add (k * 2)) = some (.int .i64 n) ∧ wr.cell? ⟨(a.add (k * 2)).block, (a.add (k * 2)).off + 1, none⟩ = some (.string s) from ⟨HX.out, HXI.out, c0, c1⟩)) (fun hT => ?_)
        refine lv 0 (v := ?_) (fun u hu => ?_) hT ?_
        rotate_left
        · ((rcases hu with ⟨hu1, hu2, q0, q1⟩; obtain ⟨b0, b1, _, _⟩ := obj_cells hu1; obtain ⟨b2, b3, _, _⟩ := obj_cells hu2; clear hu1 hu2); go_simp; try (with_reducible rfl))
        try simp only [puts]
        refine lv 1 (v := ?_) (fun u hu => ?_) hT ?_
        rotate_left
        · ((rcases hu with ⟨hu1, hu2, q0, q1⟩; obtain ⟨b0, b1, _, _⟩ := obj_cells hu1; obtain ⟨b2, b3, _, _⟩ := obj_cells hu2; clear hu1 hu2); go_simp; try (with_reducible rfl))
        try simp only [puts]
        refine lv 2 (v := ?_) (fun u hu => ?_) hT ?_
        rotate_left
        · ((rcases hu with ⟨hu1, hu2, q0, q1⟩; obtain ⟨b0, b1, _, _⟩ := obj_cells hu1; obtain ⟨b2, b3, _, _⟩ := obj_cells hu2; clear hu1 hu2); go_simp; try (with_reducible rfl))
        try simp only [puts]
        refine lv 3 (v := ?_) (fun u hu => ?_) hT ?_
        rotate_left
        · ((rcases hu with ⟨hu1, hu2, q0, q1⟩; obtain ⟨b0, b1, _, _⟩ := obj_cells hu1; obtain ⟨b2, b3, _, _⟩ := obj_cells hu2; clear hu1 hu2); go_simp; try (with_reducible rfl))
        try simp only [puts]
        refine lv 4 (v := ?_) (fun u hu => ?_) hT ?_
        rotate_left
        · ((rcases hu with ⟨hu1, hu2, q0, q1⟩; obtain ⟨b0, b1, _, _⟩ := obj_cells hu1; obtain ⟨b2, b3, _, _⟩ := obj_cells hu2; clear hu1 hu2); go_simp; try (with_reducible rfl))
        try simp only [puts]
        refine lv 5 (v := ?_) (fun u hu => ?_) hT ?_
        rotate_left
        · ((rcases hu with ⟨hu1, hu2, q0, q1⟩; obtain ⟨b0, b1, _, _⟩ := obj_cells hu1; obtain ⟨b2, b3, _, _⟩ := obj_cells hu2; clear hu1 hu2); go_simp; try (with_reducible rfl))
        try simp only [puts]
        refine lv 6 (v := ?_) (fun u hu => ?_) hT ?_
        rotate_left
        · ((rcases hu with ⟨hu1, hu2, q0, q1⟩; obtain ⟨b0, b1, _, _⟩ := obj_cells hu1; obtain ⟨b2, b3, _, _⟩ := obj_cells hu2; clear hu1 hu2); go_simp; try (with_reducible rfl))
        try simp only [puts]
        refine late_lone (i := 7) rfl (by kernel_rfl) (by rfl) (fun K hK => ?_)
        go_simp
        refine hK.out _ _ (⟨HX.out.below (below_al wr (.cells #[.int .i64 n, .string s] 63)).drew, HXI.out.below (below_al wr (.cells #[.int .i64 n, .string s] 63)).drew, ((below_al wr (.cells #[.int .i64 n, .string s] 63)).cell (block_lt_of_cell c0)).trans c0, ((below_al wr (.cells #[.int .i64 n, .string s] 63)).cell (block_lt_of_cell c1)).trans c1⟩) ?_
        clear hK
        try simp only [puts]
        refine late_lone (i := 8) rfl (by kernel_rfl) (by rfl) (fun K hK => ?_)
        refine wp_append_lies _ _ _ _ (by rfl) U.heap.size 63 i0 _ 2 24 Tryd.underlying43 hi hz0 hz1 hz2 rfl (by omega) (.slice Y M cp) M (itemsC ks) (by rfl) ((HO.out.alloc _).drew) ⟨wr.heap.size, 0, none⟩ 1 1 (itemC (n, s)) (by rfl) (by rfl) (World.news_of_block (cs := #[.int .i64 n, .string s]) (t := 63) (fr := (0, 0)) (heap_alloc_new wr _)) (by simp [itemC, Value.oneCell']) (by omega) (by unfold maxLen; omega) (by omega) (by have := HK.out.1; simp; omega) (wr.heap.size + 1) (by simp) ?_
        intro g' cap' w6 hown6 hgrow6 hat6 hlt6
        have hbB : Below U.heap.size wr w6 := (((Below.refl _ _).alloc HK.out.1 _).drew).grown hgrow6 (by have := HK.out.1; simp; omega) (fun q hq => (HO.out.lt q hq).1)
        have HO6 := Lib.hid hown6
        have HK6 := Lib.hid (HK.out.step hbB)
        have HX6 : Hid (MBox w6 (w.heap.size + 2) m Y M cp) := (hbB.block _ HGU.out).trans HX.out
        have HXI6 : Hid (MBox w6 w.heap.size m (some a) len cap) := HK6.out.obj HXU.out HNE.out
        have HB6 := Lib.hid (HB.out.trans (hbB.mono HWU.out))
        have HT6 := Lib.hid (HK6.out.vals HTU.out HGO.out)
        obtain ⟨_, n6, s6, e6, hx6, y0, y1⟩ := HT6.out.at_ HKL.out
        injection e6 with e6
        subst e6
        rw [HIT.out] at hx6
        simp only [Prod.mk.injEq] at hx6
        obtain ⟨rfl, rfl⟩ := hx6
        clear hown6 hgrow6 hat6 hlt6 hbB
        refine hK.out _ _ (⟨HX6.out, HXI6.out, y0, y1⟩) ?_
        clear hK
        try simp only [puts]
        clear hT
        have hT : MBox w6 (w.heap.size + 2) m Y M cp ∧ MBox w6 w.heap.size m (some a) len cap ∧ w6.cell? (a.add (k * 2)) = some (.int .i64 n) ∧ w6.cell? ⟨(a.add (k * 2)).block, (a.add (k * 2)).off + 1, none⟩ = some (.string s) := ⟨HX6.out, HXI6.out, y0, y1⟩
        refine lv 9 (v := ?_) (fun u hu => ?_) hT ?_
        rotate_left
        · ((rcases hu with ⟨hu1, hu2, q0, q1⟩; obtain ⟨b0, b1, _, _⟩ := obj_cells hu1; obtain ⟨b2, b3, _, _⟩ := obj_cells hu2; clear hu1 hu2); go_simp; try (with_reducible rfl))
        try simp only [puts]
        refine late_only rfl (by kernel_rfl) (by rfl) (fun K hK => ?_)
        obtain ⟨j0, j1, f0, f1⟩ := obj_cells HX6.out
        go_simp
        refine hK.out _ _ ?_
        clear hK
        try simp only [puts]
        refine late_done (by kernel_rfl) (NoPanic.normal ?_) _
        clear hT j0 j1 f0 f1 y0 y1 c0 c1
        go_wp2
        go_roundw
        case rel => exact ⟨k + 1, by omega, by go_num, by rw [HST.out]; exact mwants_put HGU.out (Nat.le_add_right _ _) HMM.out HX6.out HO6.out HK6.out HB6.out⟩
        case measure => simp [intOf]; omega
    · have he : l.take k = l := items_all (by have := HLEN.out; omega)
      have ho1 := HO.out
      have hx1 := HX.out
      rw [he] at ho1 hx1
      have HT1 := Lib.hid (vals_own_at ho1 rfl)
      have HXR : Hid (MBox wr (w.heap.size + 1) ⟨#[]⟩ none 0 0) := HK.out.obj HRU.out (show w.heap.size + 1 ≠ w.heap.size + 2 by omega)
      obtain ⟨d0, d1, _, _⟩ := obj_cells hx1
      obtain ⟨r0, r1, f0, f1⟩ := obj_cells HXR.out
      clear ho1 hx1 he HO x0 x1 HX
      generalize hrn : (outL no l).length = rn at *
      have HRN := Lib.hid hrn
      clear hrn
      go_wp2
      refine bodyPost_ret (results_cell_row rfl _ _ (w.heap.size + 1) _ _ _ _ rfl (obj_set2 HXR.out _ _) Tryd.underlying45 rfl (by kernel_rfl)) rfl ?_
      exact ⟨Y, cp, by rw [HRN.out], vals_store2 HT1.out HXR.out _ _ _ _, below_set2 HB.out (by omega) _ _⟩

set_option maxRecDepth 100000 in
set_option maxHeartbeats 12800000 in
theorem mrwith_any (m : ByteArray) (A : Option Addr) (cap : Nat) (l : List Item) (no : Int) (t : ByteArray) (w : World) (hI : Tlvs w A l) (hn : l.length ≤ 999) :
    Calls Tryd.prog 43 #[.agg #[.string m, .slice A l.length cap], .int .i64 no, .string t] w fun e w' => ∃ A' cap', e = .returned (.agg #[.string m, .slice A' (withL no t l).length cap']) ∧ Tlvs w' A' (withL no t l) ∧ Below w.heap.size w w' := by
  obtain ⟨i0, hi, hz0, hz1, hz2⟩ := info_parts Tryd.infoVal
  have HQ := Lib.hid (fun W hW => mrwithout_any m A cap l no W hW (by omega))
  have hrl : (outL no l).length ≤ 999 := Nat.le_trans (out_length no l) hn
  have HRW : Hid (refW (no, t) false (outL no l) = withL no t l) := refW_ins _ _
  generalize hlen : l.length = len at *
  clear hlen
  have HBU := Lib.hid (hbt (hbt (below_al w (.cells #[.string m, .slice A len cap] 45)) (below_al _ (.cells #[.string ⟨#[]⟩, .slice none 0 0] 45))) (below_al _ (.cells #[.string m, .slice none 0 0] 45)))
  have HRU : Hid (MBox (((w.alloc (.cells #[.string m, .slice A len cap] 45)).alloc (.cells #[.string ⟨#[]⟩, .slice none 0 0] 45)).alloc (.cells #[.string m, .slice none 0 0] 45)) (w.heap.size + 1) ⟨#[]⟩ none 0 0) := obj_below (heap_al _ _ _ (by simp)) (below_al _ _)
  have HGO : Hid (MBox (((w.alloc (.cells #[.string m, .slice A len cap] 45)).alloc (.cells #[.string ⟨#[]⟩, .slice none 0 0] 45)).alloc (.cells #[.string m, .slice none 0 0] 45)) (w.heap.size + 2) m none 0 0) := heap_al _ _ _ (by simp)
  have HI := Lib.hid (hI.below HBU.out)
  clear hI
  generalize hR : withL no t l = R at *
  have HR0 := Lib.hid hR
  clear hR
  generalize outL no l = r at *
  generalize hrn : r.length = rn at *
  have HRN := Lib.hid hrn
  clear hrn
  go_enter Tryd.func43, Tryd.ntmps43
  go_wp2_with fail
  generalize ((w.alloc (.cells #[.string m, .slice A len cap] 45)).alloc (.cells #[.string ⟨#[]⟩, .slice none 0 0] 45)).alloc (.cells #[.string m, .slice none 0 0] 45) = U0 at *
  refine (HQ.out _ HI.out).mono ?_
  rintro e w2 ⟨A2, c2, rfl, ht2, hb2⟩
  have HXU := Lib.hid (mbox_new w2 m A2 rn c2)
  have HRU2 := Lib.hid ((HRU.out.below hb2).below (below_al w2 (.cells #[.string m, .slice A2 rn c2] 45)))
  have HGO2 := Lib.hid ((HGO.out.below hb2).below (below_al w2 (.cells #[.string m, .slice A2 rn c2] 45)))
  have HTU := Lib.hid (ht2.below (below_al w2 (.cells #[.string m, .slice A2 rn c2] 45)))
  have HBU2 := Lib.hid (hbt (hbt HBU.out hb2) (below_al w2 (.cells #[.string m, .slice A2 rn c2] 45)))
  have HNE : Hid (w2.heap.size ≠ w.heap.size + 2) := by have := obj_lt (HGO.out.below hb2); show _ ≠ _; omega
  clear HRU HGO HBU HI ht2 hb2 HQ
  have HGO := HGO2
  have HRU := HRU2
  have HBU := HBU2
  have HGU := Lib.hid (obj_lt HGO.out)
  have HWU := Lib.hid HBU.out.size
  clear HGO2 HRU2 HBU2
  go_wp2_with fail
  generalize w2.alloc (.cells #[.string m, .slice A2 rn c2] 45) = U at *
  generalize w2.heap.size = go at *
  go_loopw [9, 10] (fun y i wr => ∃ (k : Nat) (d : Bool) (ks : List Item), k ≤ rn ∧ i = .int .i64 (k : Int) ∧ y = .bool d ∧ ks ++ refW (no, t) d (r.drop k) = R ∧ ks.length ≤ k + d.toNat ∧ MWants w U (w.heap.size + 2) m ks wr) (fun _ i _ => rn - (intOf i).toNat)
  case atStart => exact ⟨0, false, [], Nat.zero_le _, rfl, rfl, by rw [List.nil_append]; exact HRW.out, by simp, mwants_new HGO.out HBU.out⟩
  case round =>
    obtain ⟨k, d, ks, hk, rfl, rfl, hrest, hksl, Y, cp, hbox, hown, hkeep, hb⟩ := hrel
    have HR := Lib.hid hrest
    have HX := Lib.hid hbox
    have HO := Lib.hid hown
    have HK := Lib.hid hkeep
    have HB := Lib.hid hb
    have HXI : Hid (MBox wr go m A2 rn c2) := hkeep.obj HXU.out HNE.out
    have HT := Lib.hid (hkeep.vals HTU.out HGO.out)
    obtain ⟨x0, x1, _, _⟩ := obj_cells hbox
    obtain ⟨x2, x3, _, _⟩ := obj_cells HXI.out
    clear hown hbox hb hkeep hrest HRW HR0
    generalize hm : ks.length = M at *
    have HMM := Lib.hid hm
    have HKSL := Lib.hid hksl
    replace hksl : M ≤ k + 1 := Nat.le_trans hksl (Nat.add_le_add_left (Bool.toNat_le d) k)
    clear hm
    by_cases hlt : k < rn
    · have hkl : k < r.length := by have := HRN.out; omega
      obtain ⟨a, n, s, rfl, hx, c0, c1⟩ := HT.out.at_ hkl
      have HD := Lib.hid (drop_item hkl)
      have HIT := Lib.hid hx
      have HKL := Lib.hid hkl
      rw [hx] at HD
      clear hx hkl
      by_cases hz : d = false ∧ no < n
      · obtain ⟨rfl, hz⟩ := hz
        have tz : decide (no < n) = true := by simpa using hz
        have HST : Hid ((ks ++ [(no, t)]) ++ [(n, s)] ++ refW (no, t) true (r.drop (k + 1)) = R) := by
          show _ = _
          rw [← HR.out, HD.out, refW_hit hz, refW_true, List.append_assoc, List.append_assoc]; rfl
        clear hz HR
        go_upto_region 10 with (at_builtin; refine wpList_append_lies _ rfl _ _ _ rfl U.heap.size 63 i0 _ 2 24 Tryd.underlying43 hi hz0 hz1 hz2 rfl (by omega) (.slice Y M cp) M (itemsC ks) rfl (HO.out.alloc _) ⟨wr.heap.size, 0, none⟩ 1 1 (itemC (no, t)) rfl rfl (World.news_of_block (cs := #[.int .i64 no, .string t]) (t := 63) (fr := (0, 0)) (heap_alloc_new wr _)) (by simp [itemC, Value.oneCell']) (by omega) (by unfold maxLen; omega) (by omega) (by have := HK.out.1; simp; omega) (wr.heap.size + 1) (by simp) ?_; intro g' cap' w6 hown6 hgrow6 hat6 hlt6; have hbB : Below U.heap.size wr w6 := ((Below.refl _ _).alloc HK.out.1 _).grown hgrow6 (by have := HK.out.1; simp; omega) (fun q hq => (HO.out.lt q hq).1); have HO6 := Lib.hid hown6; have HK6 := Lib.hid (HK.out.step hbB); have HX6 : Hid (MBox w6 (w.heap.size + 2) m Y M cp) := (hbB.block _ HGU.out).trans HX.out; have HB6 := Lib.hid (HB.out.trans (hbB.mono HWU.out)); obtain ⟨j0, j1, f0, f1⟩ := obj_cells HX6.out; clear hown6 hgrow6 hat6 hlt6 hbB)
        have HM7 := Lib.hid (mwants_put HGU.out (Nat.le_add_right _ _) HMM.out HX6.out HO6.out HK6.out HB6.out)
        clear c0 c1 x0 x1 x2 x3 j0 j1 f0 f1 HX HO HK HB HXI HT HX6 HO6 HK6 HB6
        generalize w6.setCell _ _ = W7 at *
        obtain ⟨Y7, cp7, hbox, hown, hkeep, hb⟩ := HM7.out
        generalize hks : ks ++ [(no, t)] = ks7 at *
        have hksl7 : ks7.length ≤ k + 1 := by have h7 : M ≤ k := HKSL.out; rw [← hks, List.length_append, HMM.out, List.length_singleton]; omega
        clear hks HM7 HMM
        generalize hm : ks7.length = M7 at *
        have HMM := Lib.hid hm
        have HX := Lib.hid hbox
        have HO := Lib.hid hown
        have HK := Lib.hid hkeep
        have HB := Lib.hid hb
        have HXI : Hid (MBox W7 go m (some a) rn c2) := hkeep.obj HXU.out HNE.out
        have HT := Lib.hid (hkeep.vals HTU.out HGO.out)
        obtain ⟨_, n7, s7, e7, hx7, c0, c1⟩ := HT.out.at_ HKL.out
        injection e7 with e7
        subst e7
        rw [HIT.out] at hx7
        simp only [Prod.mk.injEq] at hx7
        obtain ⟨rfl, rfl⟩ := hx7
        clear hbox hown hkeep hb hm
        refine wp_region_noPanic ?_
        refine wp_region_late (fun u => MBox u (w.heap.size + 2) m Y7 M7 cp7 ∧ MBox u go m (some a) rn c2 ∧ u.cell? (a.add (k * 2)) = some (.int .i64 n) ∧ u.cell? ⟨(a.add (k * 2)).block, (a.add (k * 2)).off + 1, none⟩ = some (.string s)) 10 (by kernel_rfl) ((show MBox W7 (w.heap.size + 2) m Y7 M7 cp7 ∧ MBox W7 go m (some a) rn c2 ∧ W7.cell? (a.add (k * 2)) = some (.int .i64 n) ∧ W7.cell? ⟨(a.add (k * 2)).block, (a.add (k * 2)).off + 1, none⟩ = some (.string s) from ⟨HX.out, HXI.out, c0, c1⟩)) (fun hT => ?_)
        refine lv 0 (v := ?_) (fun u hu => ?_) hT ?_
        rotate_left
        · ((rcases hu with ⟨hu1, hu2, q0, q1⟩; obtain ⟨b0, b1, _, _⟩ := obj_cells hu1; obtain ⟨b2, b3, _, _⟩ := obj_cells hu2; clear hu1 hu2); go_simp; try (with_reducible rfl))
        try simp only [puts]
        refine lv 1 (v := ?_) (fun u hu => ?_) hT ?_
        rotate_left
        · ((rcases hu with ⟨hu1, hu2, q0, q1⟩; obtain ⟨b0, b1, _, _⟩ := obj_cells hu1; obtain ⟨b2, b3, _, _⟩ := obj_cells hu2; clear hu1 hu2); go_simp; try (with_reducible rfl))
        try simp only [puts]
        refine lv 2 (v := ?_) (fun u hu => ?_) hT ?_
        rotate_left
        · ((rcases hu with ⟨hu1, hu2, q0, q1⟩; obtain ⟨b0, b1, _, _⟩ := obj_cells hu1; obtain ⟨b2, b3, _, _⟩ := obj_cells hu2; clear hu1 hu2); go_simp; try (with_reducible rfl))
        try simp only [puts]
        refine lv 3 (v := ?_) (fun u hu => ?_) hT ?_
        rotate_left
        · ((rcases hu with ⟨hu1, hu2, q0, q1⟩; obtain ⟨b0, b1, _, _⟩ := obj_cells hu1; obtain ⟨b2, b3, _, _⟩ := obj_cells hu2; clear hu1 hu2); go_simp; try (with_reducible rfl))
        try simp only [puts]
        refine lv 4 (v := ?_) (fun u hu => ?_) hT ?_
        rotate_left
        · ((rcases hu with ⟨hu1, hu2, q0, q1⟩; obtain ⟨b0, b1, _, _⟩ := obj_cells hu1; obtain ⟨b2, b3, _, _⟩ := obj_cells hu2; clear hu1 hu2); go_simp; try (with_reducible rfl))
        try simp only [puts]
        refine lv 5 (v := ?_) (fun u hu => ?_) hT ?_
        rotate_left
        · ((rcases hu with ⟨hu1, hu2, q0, q1⟩; obtain ⟨b0, b1, _, _⟩ := obj_cells hu1; obtain ⟨b2, b3, _, _⟩ := obj_cells hu2; clear hu1 hu2); go_simp; try (with_reducible rfl))
        try simp only [puts]
        refine lv 6 (v := ?_) (fun u hu => ?_) hT ?_
        rotate_left
        · ((rcases hu with ⟨hu1, hu2, q0, q1⟩; obtain ⟨b0, b1, _, _⟩ := obj_cells hu1; obtain ⟨b2, b3, _, _⟩ := obj_cells hu2; clear hu1 hu2); go_simp; try (with_reducible rfl))
        try simp only [puts]
        refine late_lone (i := 7) rfl (by kernel_rfl) (by rfl) (fun K hK => ?_)
        go_simp
        refine hK.out _ _ (⟨HX.out.below (below_al W7 (.cells #[.int .i64 n, .string s] 63)).drew, HXI.out.below (below_al W7 (.cells #[.int .i64 n, .string s] 63)).drew, ((below_al W7 (.cells #[.int .i64 n, .string s] 63)).cell (block_lt_of_cell c0)).trans c0, ((below_al W7 (.cells #[.int .i64 n, .string s] 63)).cell (block_lt_of_cell c1)).trans c1⟩) ?_
        clear hK
        try simp only [puts]
        refine late_lone (i := 8) rfl (by kernel_rfl) (by rfl) (fun K hK => ?_)
        refine wp_append_lies _ _ _ _ (by rfl) U.heap.size 63 i0 _ 2 24 Tryd.underlying43 hi hz0 hz1 hz2 rfl (by omega) (.slice Y7 M7 cp7) M7 (itemsC ks7) (by rfl) ((HO.out.alloc _).drew) ⟨W7.heap.size, 0, none⟩ 1 1 (itemC (n, s)) (by rfl) (by rfl) (World.news_of_block (cs := #[.int .i64 n, .string s]) (t := 63) (fr := (0, 0)) (heap_alloc_new W7 _)) (by simp [itemC, Value.oneCell']) (by omega) (by unfold maxLen; omega) (by omega) (by have := HK.out.1; simp; omega) (W7.heap.size + 1) (by simp) ?_
        intro g' cap' w6 hown6 hgrow6 hat6 hlt6
        have hbB : Below U.heap.size W7 w6 := (((Below.refl _ _).alloc HK.out.1 _).drew).grown hgrow6 (by have := HK.out.1; simp; omega) (fun q hq => (HO.out.lt q hq).1)
        have HO6 := Lib.hid hown6
        have HK6 := Lib.hid (HK.out.step hbB)
        have HX6 : Hid (MBox w6 (w.heap.size + 2) m Y7 M7 cp7) := (hbB.block _ HGU.out).trans HX.out
        have HXI6 : Hid (MBox w6 go m (some a) rn c2) := HK6.out.obj HXU.out HNE.out
        have HB6 := Lib.hid (HB.out.trans (hbB.mono HWU.out))
        have HT6 := Lib.hid (HK6.out.vals HTU.out HGO.out)
        obtain ⟨_, n6, s6, e6, hx6, y0, y1⟩ := HT6.out.at_ HKL.out
        injection e6 with e6
        subst e6
        rw [HIT.out] at hx6
        simp only [Prod.mk.injEq] at hx6
        obtain ⟨rfl, rfl⟩ := hx6
        clear hown6 hgrow6 hat6 hlt6 hbB
        refine hK.out _ _ (⟨HX6.out, HXI6.out, y0, y1⟩) ?_
        clear hK
        try simp only [puts]
        clear hT
        have hT : MBox w6 (w.heap.size + 2) m Y7 M7 cp7 ∧ MBox w6 go m (some a) rn c2 ∧ w6.cell? (a.add (k * 2)) = some (.int .i64 n) ∧ w6.cell? ⟨(a.add (k * 2)).block, (a.add (k * 2)).off + 1, none⟩ = some (.string s) := ⟨HX6.out, HXI6.out, y0, y1⟩
        refine lv 9 (v := ?_) (fun u hu => ?_) hT ?_
        rotate_left
        · ((rcases hu with ⟨hu1, hu2, q0, q1⟩; obtain ⟨b0, b1, _, _⟩ := obj_cells hu1; obtain ⟨b2, b3, _, _⟩ := obj_cells hu2; clear hu1 hu2); go_simp; try (with_reducible rfl))
        try simp only [puts]
        refine late_only rfl (by kernel_rfl) (by rfl) (fun K hK => ?_)
        obtain ⟨j0, j1, f0, f1⟩ := obj_cells HX6.out
        go_simp
        refine hK.out _ _ ?_
        clear hK
        try simp only [puts]
        refine late_done (by kernel_rfl) (NoPanic.normal ?_) _
        clear hT j0 j1 f0 f1 y0 y1 c0 c1
        go_wp2
        go_roundw
        case rel => exact ⟨k + 1, true, ks7 ++ [(n, s)], by omega, by go_num, rfl, HST.out, by rw [List.length_append, HMM.out, List.length_singleton]; exact Nat.succ_le_succ hksl7, mwants_put HGU.out (Nat.le_add_right _ _) HMM.out HX6.out HO6.out HK6.out HB6.out⟩
        case measure => simp [intOf]; omega
      · have HST : Hid (ks ++ [(n, s)] ++ refW (no, t) d (r.drop (k + 1)) = R) := by
          show _ = _
          cases d
          · rw [← HR.out, HD.out, refW_miss (fun h => hz ⟨rfl, h⟩), List.append_assoc]; rfl
          · rw [← HR.out, HD.out, refW_true, refW_true, List.append_assoc]; rfl
        have tz : d = false → decide (no < n) = false := fun e => by simp; exact Int.not_lt.1 fun h => hz ⟨e, h⟩
        clear hz HR
        cases d
        all_goals
          have tz := tz
          simp only [reduceCtorEq, false_implies, true_implies] at tz
          go_wp2_with fail
          clear x0 x1 x2 x3
          refine wp_region_noPanic ?_
          refine wp_region_late (fun u => MBox u (w.heap.size + 2) m Y M cp ∧ MBox u go m (some a) rn c2 ∧ u.cell? (a.add (k * 2)) = some (.int .i64 n) ∧ u.cell? ⟨(a.add (k * 2)).block, (a.add (k * 2)).off + 1, none⟩ = some (.string s)) 10 (by kernel_rfl) ((show MBox wr (w.heap.size + 2) m Y M cp ∧ MBox wr go m (some a) rn c2 ∧ wr.cell? (a.add (k * 2)) = some (.int .i64 n) ∧ wr.cell? ⟨(a.add (k * 2)).block, (a.add (k * 2)).off + 1, none⟩ = some (.string s) from ⟨HX.out, HXI.out, c0, c1⟩)) (fun hT => ?_)
          refine lv 0 (v := ?_) (fun u hu => ?_) hT ?_
          rotate_left
          · ((rcases hu with ⟨hu1, hu2, q0, q1⟩; obtain ⟨b0, b1, _, _⟩ := obj_cells hu1; obtain ⟨b2, b3, _, _⟩ := obj_cells hu2; clear hu1 hu2); go_simp; try (with_reducible rfl))
          try simp only [puts]
          refine lv 1 (v := ?_) (fun u hu => ?_) hT ?_
          rotate_left
          · ((rcases hu with ⟨hu1, hu2, q0, q1⟩; obtain ⟨b0, b1, _, _⟩ := obj_cells hu1; obtain ⟨b2, b3, _, _⟩ := obj_cells hu2; clear hu1 hu2); go_simp; try (with_reducible rfl))
          try simp only [puts]
          refine lv 2 (v := ?_) (fun u hu => ?_) hT ?_
          rotate_left
          · ((rcases hu with ⟨hu1, hu2, q0, q1⟩; obtain ⟨b0, b1, _, _⟩ := obj_cells hu1; obtain ⟨b2, b3, _, _⟩ := obj_cells hu2; clear hu1 hu2); go_simp; try (with_reducible rfl))
          try simp only [puts]
          refine lv 3 (v := ?_) (fun u hu => ?_) hT ?_
          rotate_left
          · ((rcases hu with ⟨hu1, hu2, q0, q1⟩; obtain ⟨b0, b1, _, _⟩ := obj_cells hu1; obtain ⟨b2, b3, _, _⟩ := obj_cells hu2; clear hu1 hu2); go_simp; try (with_reducible rfl))
          try simp only [puts]
          refine lv 4 (v := ?_) (fun u hu => ?_) hT ?_
          rotate_left
          · ((rcases hu with ⟨hu1, hu2, q0, q1⟩; obtain ⟨b0, b1, _, _⟩ := obj_cells hu1; obtain ⟨b2, b3, _, _⟩ := obj_cells hu2; clear hu1 hu2); go_simp; try (with_reducible rfl))
          try simp only [puts]
          refine lv 5 (v := ?_) (fun u hu => ?_) hT ?_
          rotate_left
          · ((rcases hu with ⟨hu1, hu2, q0, q1⟩; obtain ⟨b0, b1, _, _⟩ := obj_cells hu1; obtain ⟨b2, b3, _, _⟩ := obj_cells hu2; clear hu1 hu2); go_simp; try (with_reducible rfl))
          try simp only [puts]
          refine lv 6 (v := ?_) (fun u hu => ?_) hT ?_
          rotate_left
          · ((rcases hu with ⟨hu1, hu2, q0, q1⟩; obtain ⟨b0, b1, _, _⟩ := obj_cells hu1; obtain ⟨b2, b3, _, _⟩ := obj_cells hu2; clear hu1 hu2); go_simp; try (with_reducible rfl))
          try simp only [puts]
          refine late_lone (i := 7) rfl (by kernel_rfl) (by rfl) (fun K hK => ?_)
          go_simp
          refine hK.out _ _ (⟨HX.out.below (below_al wr (.cells #[.int .i64 n, .string s] 63)).drew, HXI.out.below (below_al wr (.cells #[.int .i64 n, .string s] 63)).drew, ((below_al wr (.cells #[.int .i64 n, .string s] 63)).cell (block_lt_of_cell c0)).trans c0, ((below_al wr (.cells #[.int .i64 n, .string s] 63)).cell (block_lt_of_cell c1)).trans c1⟩) ?_
          clear hK
          try simp only [puts]
          refine late_lone (i := 8) rfl (by kernel_rfl) (by rfl) (fun K hK => ?_)
          refine wp_append_lies _ _ _ _ (by rfl) U.heap.size 63 i0 _ 2 24 Tryd.underlying43 hi hz0 hz1 hz2 rfl (by omega) (.slice Y M cp) M (itemsC ks) (by rfl) ((HO.out.alloc _).drew) ⟨wr.heap.size, 0, none⟩ 1 1 (itemC (n, s)) (by rfl) (by rfl) (World.news_of_block (cs := #[.int .i64 n, .string s]) (t := 63) (fr := (0, 0)) (heap_alloc_new wr _)) (by simp [itemC, Value.oneCell']) (by omega) (by unfold maxLen; omega) (by omega) (by have := HK.out.1; simp; omega) (wr.heap.size + 1) (by simp) ?_
          intro g' cap' w6 hown6 hgrow6 hat6 hlt6
          have hbB : Below U.heap.size wr w6 := (((Below.refl _ _).alloc HK.out.1 _).drew).grown hgrow6 (by have := HK.out.1; simp; omega) (fun q hq => (HO.out.lt q hq).1)
          have HO6 := Lib.hid hown6
          have HK6 := Lib.hid (HK.out.step hbB)
          have HX6 : Hid (MBox w6 (w.heap.size + 2) m Y M cp) := (hbB.block _ HGU.out).trans HX.out
          have HXI6 : Hid (MBox w6 go m (some a) rn c2) := HK6.out.obj HXU.out HNE.out
          have HB6 := Lib.hid (HB.out.trans (hbB.mono HWU.out))
          have HT6 := Lib.hid (HK6.out.vals HTU.out HGO.out)
          obtain ⟨_, n6, s6, e6, hx6, y0, y1⟩ := HT6.out.at_ HKL.out
          injection e6 with e6
          subst e6
          rw [HIT.out] at hx6
          simp only [Prod.mk.injEq] at hx6
          obtain ⟨rfl, rfl⟩ := hx6
          clear hown6 hgrow6 hat6 hlt6 hbB
          refine hK.out _ _ (⟨HX6.out, HXI6.out, y0, y1⟩) ?_
          clear hK
          try simp only [puts]
          clear hT
          have hT : MBox w6 (w.heap.size + 2) m Y M cp ∧ MBox w6 go m (some a) rn c2 ∧ w6.cell? (a.add (k * 2)) = some (.int .i64 n) ∧ w6.cell? ⟨(a.add (k * 2)).block, (a.add (k * 2)).off + 1, none⟩ = some (.string s) := ⟨HX6.out, HXI6.out, y0, y1⟩
          refine lv 9 (v := ?_) (fun u hu => ?_) hT ?_
          rotate_left
          · ((rcases hu with ⟨hu1, hu2, q0, q1⟩; obtain ⟨b0, b1, _, _⟩ := obj_cells hu1; obtain ⟨b2, b3, _, _⟩ := obj_cells hu2; clear hu1 hu2); go_simp; try (with_reducible rfl))
          try simp only [puts]
          refine late_only rfl (by kernel_rfl) (by rfl) (fun K hK => ?_)
          obtain ⟨j0, j1, f0, f1⟩ := obj_cells HX6.out
          go_simp
          refine hK.out _ _ ?_
          clear hK
          try simp only [puts]
          refine late_done (by kernel_rfl) (NoPanic.normal ?_) _
          clear hT j0 j1 f0 f1 y0 y1 c0 c1
          go_wp2
          go_roundw
          case rel => exact ⟨k + 1, _, ks ++ [(n, s)], by omega, by go_num, rfl, HST.out, by have h8 := HKSL.out; rw [List.length_append, HMM.out, List.length_singleton, Nat.add_right_comm]; exact Nat.succ_le_succ h8, mwants_put HGU.out (Nat.le_add_right _ _) HMM.out HX6.out HO6.out HK6.out HB6.out⟩
          case measure => simp [intOf]; omega
    · have HE := Lib.hid (items_end (l := r) (k := k) (by have := HRN.out; omega))
      cases d
      · have HKS : Hid (ks ++ [(no, t)] = R) := by show _ = _; rw [← HR.out, HE.out]; rfl
        go_upto_region 13 with (at_builtin; refine wpList_append_lies _ rfl _ _ _ rfl U.heap.size 63 i0 _ 2 24 Tryd.underlying43 hi hz0 hz1 hz2 rfl (by omega) (.slice Y M cp) M (itemsC ks) rfl (HO.out.alloc _) ⟨wr.heap.size, 0, none⟩ 1 1 (itemC (no, t)) rfl rfl (World.news_of_block (cs := #[.int .i64 no, .string t]) (t := 63) (fr := (0, 0)) (heap_alloc_new wr _)) (by simp [itemC, Value.oneCell']) (by omega) (by unfold maxLen; omega) (by omega) (by have := HK.out.1; simp; omega) (wr.heap.size + 1) (by simp) ?_; intro g' cap' w6 hown6 hgrow6 hat6 hlt6; have hbB : Below U.heap.size wr w6 := ((Below.refl _ _).alloc HK.out.1 _).grown hgrow6 (by have := HK.out.1; simp; omega) (fun q hq => (HO.out.lt q hq).1); have HO6 := Lib.hid hown6; have HK6 := Lib.hid (HK.out.step hbB); have HX6 : Hid (MBox w6 (w.heap.size + 2) m Y M cp) := (hbB.block _ HGU.out).trans HX.out; have HB6 := Lib.hid (HB.out.trans (hbB.mono HWU.out)); obtain ⟨j0, j1, f0, f1⟩ := obj_cells HX6.out; clear hown6 hgrow6 hat6 hlt6 hbB)
        have HM7 := Lib.hid (mwants_put HGU.out (Nat.le_add_right _ _) HMM.out HX6.out HO6.out HK6.out HB6.out)
        rw [HKS.out] at HM7
        clear x0 x1 x2 x3 j0 j1 f0 f1 HX HO HK HB HXI HT HX6 HO6 HK6 HB6
        generalize w6.setCell _ _ = W7 at *
        obtain ⟨Y7, cp7, hbox, hown, hkeep, hb⟩ := HM7.out
        have HB := Lib.hid hb
        have HT7 := Lib.hid (vals_own_at hown rfl)
        have HXR : Hid (MBox W7 (w.heap.size + 1) ⟨#[]⟩ none 0 0) := hkeep.obj HRU.out (show w.heap.size + 1 ≠ w.heap.size + 2 by omega)
        obtain ⟨d0, d1, _, _⟩ := obj_cells hbox
        obtain ⟨r0, r1, f0, f1⟩ := obj_cells HXR.out
        clear hbox hown hkeep hb HM7 HKS
        generalize hrl2 : R.length = RL at *
        have HRL := Lib.hid hrl2
        clear hrl2
        go_wp2
        refine bodyPost_ret (results_cell_row rfl _ _ (w.heap.size + 1) _ _ _ _ rfl (obj_set2 HXR.out _ _) Tryd.underlying45 rfl (by kernel_rfl)) rfl ?_
        exact ⟨Y7, cp7, by rw [HRL.out], vals_store2 HT7.out HXR.out _ _ _ _, below_set2 HB.out (by omega) _ _⟩
      · have HKS : Hid (ks = R) := by show _ = _; rw [← HR.out, HE.out, refW_true, List.append_nil]
        have HM7 : Hid (MWants w U (w.heap.size + 2) m ks wr) := ⟨Y, cp, by rw [HMM.out]; exact HX.out, by rw [HMM.out]; exact HO.out, HK.out, HB.out⟩
        rw [HKS.out] at HM7
        go_upto_region 13 with fail
        clear x0 x1 x2 x3 HX HO HK HB HXI HT
        generalize wr = W7 at *
        obtain ⟨Y7, cp7, hbox, hown, hkeep, hb⟩ := HM7.out
        have HB := Lib.hid hb
        have HT7 := Lib.hid (vals_own_at hown rfl)
        have HXR : Hid (MBox W7 (w.heap.size + 1) ⟨#[]⟩ none 0 0) := hkeep.obj HRU.out (show w.heap.size + 1 ≠ w.heap.size + 2 by omega)
        obtain ⟨d0, d1, _, _⟩ := obj_cells hbox
        obtain ⟨r0, r1, f0, f1⟩ := obj_cells HXR.out
        clear hbox hown hkeep hb HM7 HKS
        generalize hrl2 : R.length = RL at *
        have HRL := Lib.hid hrl2
        clear hrl2
        go_wp2
        refine bodyPost_ret (results_cell_row rfl _ _ (w.heap.size + 1) _ _ _ _ rfl (obj_set2 HXR.out _ _) Tryd.underlying45 rfl (by kernel_rfl)) rfl ?_
        exact ⟨Y7, cp7, by rw [HRL.out], vals_store2 HT7.out HXR.out _ _ _ _, below_set2 HB.out (by omega) _ _⟩

end Go.Proofs.YtnbllngljgmebaaDoor

/-
  What Same, slices.Equal over values and the document's Same answer: for every two messages of up to 1000 fields, in every world.
-/
namespace Go.Proofs.YtnbllngljgmebaaDoor
open Go.RowKit

theorem text_of {x y : ByteArray} (h : x.toList = y.toList) : x = y := by
  rw [ByteArray.toList_eq, ByteArray.toList_eq] at h
  rw [ByteArray.ext_iff]
  exact Array.toList_inj.1 h
theorem texts_ne {x y : ByteArray} (h : x ≠ y) : (x.toList == y.toList) = false := by
  rw [beq_eq_false_iff_ne]
  exact fun e => h (text_of e)

theorem vals_two {w : World} {A B : Option Addr} {l m : List Item} (hA : Tlvs w A l) (hB : Tlvs w B m) {k : Nat} (h1 : k < l.length) (h2 : k < m.length) (he : itemAt l k = itemAt m k) : ∃ a b n s, A = some a ∧ B = some b ∧
    (w.cell? (a.add (k * 2)) = some (.int .i64 n) ∧ w.cell? ⟨(a.add (k * 2)).block, (a.add (k * 2)).off + 1, none⟩ = some (.string s)) ∧
    (w.cell? (b.add (k * 2)) = some (.int .i64 n) ∧ w.cell? ⟨(b.add (k * 2)).block, (b.add (k * 2)).off + 1, none⟩ = some (.string s)) := by
  obtain ⟨a, n, s, ha, hx, g⟩ := hA.at_ h1
  obtain ⟨b, n', s', hb, hy, g'⟩ := hB.at_ h2
  rw [hx, hy] at he
  simp only [Prod.mk.injEq] at he
  obtain ⟨rfl, rfl⟩ := he
  exact ⟨a, b, n, s, ha, hb, g, g'⟩


/-- Two messages in the first two blocks that the call makes. -/
def MTwins (w : World) (x : ByteArray) (A : Option Addr) (len cap : Nat) (y : ByteArray) (B : Option Addr) (len' cap' : Nat) (u : World) : Prop := Below w.heap.size w u ∧ MBox u w.heap.size x A len cap ∧ MBox u (w.heap.size + 1) y B len' cap'
theorem MTwins.below {w : World} {x : ByteArray} {A : Option Addr} {len cap : Nat} {y : ByteArray} {B : Option Addr} {len' cap' : Nat} {u u' : World} (h : MTwins w x A len cap y B len' cap' u) (hb : Below u.heap.size u u') : MTwins w x A len cap y B len' cap' u' := ⟨hbt h.1 hb, h.2.1.below hb, h.2.2.below hb⟩
theorem mtwins_new (w : World) (x : ByteArray) (A : Option Addr) (len cap : Nat) (y : ByteArray) (B : Option Addr) (len' cap' : Nat) : MTwins w x A len cap y B len' cap' ((w.alloc (.cells #[.string x, .slice A len cap] 45)).alloc (.cells #[.string y, .slice B len' cap'] 45)) :=
  ⟨hbt (below_al _ _) (below_al _ _), (mbox_new _ _ _ _ _).below (below_al _ _), heap_al _ _ _ (by simp)⟩

set_option maxRecDepth 100000 in
set_option maxHeartbeats 1600000 in
theorem mrsame_m (x : ByteArray) (A : Option Addr) (len cap : Nat) (y : ByteArray) (B : Option Addr) (len' cap' : Nat) (w : World) (h : x ≠ y) :
    Calls Tryd.prog 19 #[.agg #[.string x, .slice A len cap], .agg #[.string y, .slice B len' cap']] w fun e w' => e = .returned (.bool false) ∧ Below w.heap.size w w' := by
  have t := texts_ne h
  clear h
  go_enter Tryd.func19, Tryd.ntmps19
  go_wp2
  go_ret
  exact ⟨rfl, hbt (below_al _ _) (below_al _ _)⟩
set_option maxRecDepth 100000 in
set_option maxHeartbeats 1600000 in
theorem mrsame_len (x : ByteArray) (A : Option Addr) (len cap : Nat) (B : Option Addr) (len' cap' : Nat) (w : World) (h : len ≠ len') :
    Calls Tryd.prog 19 #[.agg #[.string x, .slice A len cap], .agg #[.string x, .slice B len' cap']] w fun e w' => e = .returned (.bool false) ∧ Below w.heap.size w w' := by
  have t : ((len : Int) != (len' : Int)) = true := by simp; omega
  clear h
  go_enter Tryd.func19, Tryd.ntmps19
  go_wp2
  go_ret
  exact ⟨rfl, hbt (below_al _ _) (below_al _ _)⟩
set_option maxRecDepth 100000 in
set_option maxHeartbeats 3200000 in
theorem mrsame_list (x : ByteArray) (A B : Option Addr) (ca cb : Nat) (l m : List Item) (w : World) (hA : Tlvs w A l) (hB : Tlvs w B m) (hl : l.length ≤ 1000) (hlm : l.length = m.length) :
    Calls Tryd.prog 19 #[.agg #[.string x, .slice A l.length ca], .agg #[.string x, .slice B l.length cb]] w fun e w' => e = .returned (.bool (decide (l = m))) ∧ Below w.heap.size w w' := by
  have HLM := Lib.hid hlm
  clear hlm
  generalize hlen : l.length = len at *
  have HLEN := Lib.hid hlen
  clear hlen
  have HT := Lib.hid (mtwins_new w x A len ca x B len cb)
  have HA := Lib.hid (hA.below HT.out.1)
  have HB := Lib.hid (hB.below HT.out.1)
  clear hA hB
  go_enter Tryd.func19, Tryd.ntmps19
  go_wp2_with fail
  generalize (w.alloc (.cells #[.string x, .slice A len ca] 45)).alloc (.cells #[.string x, .slice B len cb] 45) = U at *
  go_loopw [5] (fun i wr => ∃ k : Nat, k ≤ len ∧ i = .int .i64 (k : Int) ∧ (∀ j, j < k → itemAt l j = itemAt m j) ∧ Below U.heap.size U wr) (fun i _ => len - (intOf i).toNat)
  case atStart => exact ⟨0, Nat.zero_le _, rfl, fun j hj => by omega, Below.refl _ _⟩
  case round =>
    obtain ⟨k, hk, rfl, hno, hb⟩ := hrel
    have HNO := Lib.hid hno
    have HW := Lib.hid hb
    have HU := Lib.hid (HT.out.below hb)
    obtain ⟨b0, b1, _, _⟩ := obj_cells HU.out.2.1
    obtain ⟨b3, b4, _, _⟩ := obj_cells HU.out.2.2
    clear hno hb
    by_cases hlt : k < len
    · by_cases he : itemAt l k = itemAt m k
      · have HE := Lib.hid he
        obtain ⟨a, b, n, s, rfl, rfl, ⟨c0, c1⟩, d0, d1⟩ := vals_two (HA.out.below HW.out) (HB.out.below HW.out) (by have := HLEN.out; omega) (by have := HLEN.out; have := HLM.out; omega) he
        clear he
        go_wp2_with fail
        go_quiet (fail)
        go_wp2
        go_roundw
        case rel =>
          refine ⟨k + 1, by omega, by go_num, fun j hj => ?_, hbt HW.out (below_drewN _ _)⟩
          rcases Nat.lt_or_ge j k with h | h
          · exact HNO.out j h
          · obtain rfl : j = k := by omega
            exact HE.out
        case measure => simp [intOf]; omega
      · obtain ⟨a, n, s, rfl, hx, c0, c1⟩ := (HA.out.below HW.out).at_ (i := k) (by have := HLEN.out; omega)
        obtain ⟨b, n', s', rfl, hy, d0, d1⟩ := (HB.out.below HW.out).at_ (i := k) (by have := HLEN.out; have := HLM.out; omega)
        have hne : Hid (l ≠ m) := fun e => he (by rw [e])
        rw [hx, hy] at he
        simp only [Prod.mk.injEq] at he
        go_wp2_with fail
        refine wp_region_noPanic ?_
        refine wp_region_held_drew (S := (fun u => Below wr.heap.size wr u)) (by kernel_rfl) ((Below.refl _ _).drew) (fun hS => ?_)
        refine gv 0 (v := ?_) (fun u hu => ?_) hS ?_
        rotate_left
        · ((have q0 := (hu.cell (block_lt_of_cell c0)).trans c0; have q1 := (hu.cell (block_lt_of_cell c1)).trans c1; have p0 := (hu.cell (block_lt_of_cell d0)).trans d0; have p1 := (hu.cell (block_lt_of_cell d1)).trans d1; have o1 := (hu.cell (block_lt_of_cell b1)).trans b1; have o4 := (hu.cell (block_lt_of_cell b4)).trans b4); go_simp; try (with_reducible rfl))
        try simp only [puts]
        refine gv 1 (v := ?_) (fun u hu => ?_) hS ?_
        rotate_left
        · ((have q0 := (hu.cell (block_lt_of_cell c0)).trans c0; have q1 := (hu.cell (block_lt_of_cell c1)).trans c1; have p0 := (hu.cell (block_lt_of_cell d0)).trans d0; have p1 := (hu.cell (block_lt_of_cell d1)).trans d1; have o1 := (hu.cell (block_lt_of_cell b1)).trans b1; have o4 := (hu.cell (block_lt_of_cell b4)).trans b4); go_simp; try (with_reducible rfl))
        try simp only [puts]
        refine gv 2 (v := ?_) (fun u hu => ?_) hS ?_
        rotate_left
        · ((have q0 := (hu.cell (block_lt_of_cell c0)).trans c0; have q1 := (hu.cell (block_lt_of_cell c1)).trans c1; have p0 := (hu.cell (block_lt_of_cell d0)).trans d0; have p1 := (hu.cell (block_lt_of_cell d1)).trans d1; have o1 := (hu.cell (block_lt_of_cell b1)).trans b1; have o4 := (hu.cell (block_lt_of_cell b4)).trans b4); go_simp; try (with_reducible rfl))
        try simp only [puts]
        refine gv 3 (v := ?_) (fun u hu => ?_) hS ?_
        rotate_left
        · ((have q0 := (hu.cell (block_lt_of_cell c0)).trans c0; have q1 := (hu.cell (block_lt_of_cell c1)).trans c1; have p0 := (hu.cell (block_lt_of_cell d0)).trans d0; have p1 := (hu.cell (block_lt_of_cell d1)).trans d1; have o1 := (hu.cell (block_lt_of_cell b1)).trans b1; have o4 := (hu.cell (block_lt_of_cell b4)).trans b4); go_simp; try (with_reducible rfl))
        try simp only [puts]
        refine gv 4 (v := ?_) (fun u hu => ?_) hS ?_
        rotate_left
        · ((have q0 := (hu.cell (block_lt_of_cell c0)).trans c0; have q1 := (hu.cell (block_lt_of_cell c1)).trans c1; have p0 := (hu.cell (block_lt_of_cell d0)).trans d0; have p1 := (hu.cell (block_lt_of_cell d1)).trans d1; have o1 := (hu.cell (block_lt_of_cell b1)).trans b1; have o4 := (hu.cell (block_lt_of_cell b4)).trans b4); go_simp; try (with_reducible rfl))
        try simp only [puts]
        refine gv 5 (v := ?_) (fun u hu => ?_) hS ?_
        rotate_left
        · ((have q0 := (hu.cell (block_lt_of_cell c0)).trans c0; have q1 := (hu.cell (block_lt_of_cell c1)).trans c1; have p0 := (hu.cell (block_lt_of_cell d0)).trans d0; have p1 := (hu.cell (block_lt_of_cell d1)).trans d1; have o1 := (hu.cell (block_lt_of_cell b1)).trans b1; have o4 := (hu.cell (block_lt_of_cell b4)).trans b4); go_simp; try (with_reducible rfl))
        try simp only [puts]
        refine gv 6 (v := ?_) (fun u hu => ?_) hS ?_
        rotate_left
        · ((have q0 := (hu.cell (block_lt_of_cell c0)).trans c0; have q1 := (hu.cell (block_lt_of_cell c1)).trans c1; have p0 := (hu.cell (block_lt_of_cell d0)).trans d0; have p1 := (hu.cell (block_lt_of_cell d1)).trans d1; have o1 := (hu.cell (block_lt_of_cell b1)).trans b1; have o4 := (hu.cell (block_lt_of_cell b4)).trans b4); go_simp; try (with_reducible rfl))
        try simp only [puts]
        refine gv 7 (v := ?_) (fun u hu => ?_) hS ?_
        rotate_left
        · ((have q0 := (hu.cell (block_lt_of_cell c0)).trans c0; have q1 := (hu.cell (block_lt_of_cell c1)).trans c1; have p0 := (hu.cell (block_lt_of_cell d0)).trans d0; have p1 := (hu.cell (block_lt_of_cell d1)).trans d1; have o1 := (hu.cell (block_lt_of_cell b1)).trans b1; have o4 := (hu.cell (block_lt_of_cell b4)).trans b4); go_simp; try (with_reducible rfl))
        try simp only [puts]
        refine gv 8 (v := ?_) (fun u hu => ?_) hS ?_
        rotate_left
        · ((have q0 := (hu.cell (block_lt_of_cell c0)).trans c0; have q1 := (hu.cell (block_lt_of_cell c1)).trans c1; have p0 := (hu.cell (block_lt_of_cell d0)).trans d0; have p1 := (hu.cell (block_lt_of_cell d1)).trans d1; have o1 := (hu.cell (block_lt_of_cell b1)).trans b1; have o4 := (hu.cell (block_lt_of_cell b4)).trans b4); go_simp; try (with_reducible rfl))
        try simp only [puts]
        refine gv 9 (v := ?_) (fun u hu => ?_) hS ?_
        rotate_left
        · ((have q0 := (hu.cell (block_lt_of_cell c0)).trans c0; have q1 := (hu.cell (block_lt_of_cell c1)).trans c1; have p0 := (hu.cell (block_lt_of_cell d0)).trans d0; have p1 := (hu.cell (block_lt_of_cell d1)).trans d1; have o1 := (hu.cell (block_lt_of_cell b1)).trans b1; have o4 := (hu.cell (block_lt_of_cell b4)).trans b4); go_simp; try (with_reducible rfl))
        try simp only [puts]
        refine gv 10 (v := (.bool true)) (fun u hu => ?_) hS ?_
        · ((have q0 := (hu.cell (block_lt_of_cell c0)).trans c0; have q1 := (hu.cell (block_lt_of_cell c1)).trans c1; have p0 := (hu.cell (block_lt_of_cell d0)).trans d0; have p1 := (hu.cell (block_lt_of_cell d1)).trans d1; have o1 := (hu.cell (block_lt_of_cell b1)).trans b1; have o4 := (hu.cell (block_lt_of_cell b4)).trans b4); go_simp; (exact fun e1 e2 => he ⟨e1, text_of e2⟩))
        try simp only [puts]
        refine wpAnyH_done (by kernel_rfl) (NoPanic.normal ?_) _
        clear c0 c1 d0 d1 b0 b1 b3 b4 he hx hy
        go_wp2
        go_ret
        exact ⟨by simp [hne.out], hbt HU.out.1 hS⟩
    · have HE := Lib.hid (items_ext (by rw [HLEN.out]; exact HLM.out) (fun j hj => HNO.out j (by have := HLEN.out; omega)))
      go_wp2
      go_ret
      exact ⟨by simp [HE.out], HU.out.1⟩
theorem mrsame_any (x : ByteArray) (A : Option Addr) (ca : Nat) (l : List Item) (y : ByteArray) (B : Option Addr) (cb : Nat) (m : List Item) (w : World) (hA : Tlvs w A l) (hB : Tlvs w B m) (hl : l.length ≤ 1000) :
    Calls Tryd.prog 19 #[.agg #[.string x, .slice A l.length ca], .agg #[.string y, .slice B m.length cb]] w fun e w' => e = .returned (.bool (sameM x l y m)) ∧ Below w.heap.size w w' := by
  by_cases h1 : x = y
  · subst h1
    by_cases h3 : l.length = m.length
    · rw [sameM_on, ← h3]; exact mrsame_list x A B ca cb l m w hA hB hl h3
    · rw [sameM_l (fun e => h3 (by rw [e]))]; exact mrsame_len x A _ ca B _ cb w h3
  · rw [sameM_m h1]; exact mrsame_m x A _ ca y B _ cb w h1


end Go.Proofs.YtnbllngljgmebaaDoor

/-
  What checkField and Check answer: for every schema and message of up to 1000 specs and fields, in every world that holds the table of kinds.
-/
namespace Go.Proofs.YtnbllngljgmebaaDoor
open Go.RowKit

set_option maxRecDepth 100000 in
set_option maxHeartbeats 3200000 in
theorem mfield_any (st v : Int) (A : Option Addr) (cap : Nat) (sl : List Sp) (n : Int) (s : ByteArray) (last : Int) (w : World) (hK : Kinds w) (hI : Spl w A sl) (hn : sl.length ≤ 1000) (hs : s.size ≤ maxLen) :
    Calls Tryd.prog 48 #[.agg #[.int .i64 st, .int .i64 v, .slice A sl.length cap], .agg #[.int .i64 n, .string s], .int .i64 last] w fun e w' => e = .returned (.int .i64 (fldE sl last (n, s))) ∧ Below w.heap.size w w' := by
  have HB0 := Lib.hid (hbt (below_al w (.cells #[.int .i64 st, .int .i64 v, .slice A sl.length cap] 24)) (below_al _ (.cells #[.int .i64 n, .string s] 63)))
  have HV0 : Hid (((w.alloc (.cells #[.int .i64 st, .int .i64 v, .slice A sl.length cap] 24)).alloc (.cells #[.int .i64 n, .string s] 63)).heap[w.heap.size + 1]? = some (.cells #[.int .i64 n, .string s] 63)) := heap_al _ _ _ (by simp)
  have HF := Lib.hid (fun W hW => sfind_any st v A cap sl n W hW hn)
  have HI := Lib.hid (hI.below HB0.out)
  have HK := Lib.hid (hK.below HB0.out)
  clear hI hK
  by_cases ho : n ≤ last
  · have tord : decide (n ≤ last) = true := by simpa using ho
    have HE := Lib.hid (fldE_order (sl := sl) (last := last) (x := (n, s)) ho)
    generalize sl.length = len at *
    clear ho hs
    go_enter Tryd.func48, Tryd.ntmps48
    go_wp2
    go_ret
    exact ⟨by rw [HE.out]; rfl, HB0.out⟩
  · have tord : decide (n ≤ last) = false := by simpa using ho
    have HN := Lib.hid (fldE_none (sl := sl) (last := last) (x := (n, s)) ho)
    have HV := Lib.hid (fldE_val (sl := sl) (last := last) (x := (n, s)) ho)
    clear ho
    dsimp only at HN HV
    generalize fndP n sl = R at *
    obtain ⟨⟨n', c, f, lo, hi⟩, ok⟩ := R
    dsimp only at HN HV
    have HF1 : Hid (∀ W, Spl W A sl → Calls Tryd.prog 28 #[.agg #[.int .i64 st, .int .i64 v, .slice A sl.length cap], .int .i64 n] W fun e w' => e = .returned (.tuple #[.agg #[.int .i64 n', .int .i64 c, .int .i64 f, .int .i64 lo, .int .i64 hi], .bool ok]) ∧ Below W.heap.size W w') := HF.out
    have HW := Lib.hid (fun W hW => spvalue_any n' c f lo hi s W hW hs)
    clear HF hs
    generalize sl.length = len at *
    cases ok
    · have HE := Lib.hid (HN.out rfl)
      clear HN HV HW
      go_enter Tryd.func48, Tryd.ntmps48
      go_wp2_with fail
      generalize (w.alloc (.cells #[.int .i64 st, .int .i64 v, .slice A len cap] 24)).alloc (.cells #[.int .i64 n, .string s] 63) = U at *
      refine (HF1.out _ HI.out).mono ?_
      rintro e w1 ⟨rfl, hb1⟩
      have HB1 := Lib.hid (hbt HB0.out hb1)
      clear hb1
      go_wp2
      go_ret
      exact ⟨by rw [HE.out]; rfl, hbt HB1.out (below_al _ _)⟩
    · have HE := Lib.hid (HV.out rfl)
      clear HN HV
      unfold spvS at HE
      dsimp only at HE
      generalize spv n' c f lo hi s = z at *
      go_enter Tryd.func48, Tryd.ntmps48
      go_wp2_with fail
      generalize (w.alloc (.cells #[.int .i64 st, .int .i64 v, .slice A len cap] 24)).alloc (.cells #[.int .i64 n, .string s] 63) = U at *
      refine (HF1.out _ HI.out).mono ?_
      rintro e w1 ⟨rfl, hb1⟩
      have HB1 := Lib.hid (hbt HB0.out hb1)
      have HK1 := Lib.hid ((HK.out.below hb1).below (below_al w1 (.cells #[.int .i64 n', .int .i64 c, .int .i64 f, .int .i64 lo, .int .i64 hi] 67)))
      obtain ⟨b0, b1, _, _⟩ := obj_cells (obj_below HV0.out hb1)
      have hz1 := obj_lt (obj_below HV0.out hb1)
      clear hb1
      go_wp2_with fail
      refine (HW.out _ HK1.out).mono ?_
      rintro e w2 ⟨rfl, hb2⟩
      have HB2 := Lib.hid (hbt (hbt HB1.out (below_al _ _)) hb2)
      clear hb2 b0 b1
      go_wp2
      go_ret
      exact ⟨by rw [HE.out]; rfl, HB2.out⟩

/-- What Version answers, and whether that is the version asked for. -/
theorem mver_told (m : ByteArray) (v : Int) : ∃ (z : Int) (ok : Bool), (∀ W, Calls Tryd.prog 47 #[.string m] W fun e w' => e = .returned (.tuple #[.int .i64 z, .bool ok]) ∧ Below W.heap.size W w') ∧ mtiV m v = (ok && decide (z = v)) := by
  cases h : mtiB m.data.toList
  · exact ⟨0, false, fun W => mver_no m W h, by rw [mtiV_none h]; rfl⟩
  · obtain ⟨a, b, c, d, rfl, ha, hb, hc, hd⟩ := mti_of h
    refine ⟨_, true, fun W => mver_yes a b c d W ha hb hc hd, ?_⟩
    rw [mtiV_T4 h, Bool.true_and]
    have g := (isD_iff a).1 ha
    congr 1
    rw [eq_iff_iff]
    omega

/-- A schema, a message and room for a fault, in the first three blocks that the call makes. -/
def Trio (w : World) (st v : Int) (A : Option Addr) (len cap : Nat) (m : ByteArray) (B : Option Addr) (n c : Nat) (u : World) : Prop :=
  Below w.heap.size w u ∧ Box u w.heap.size st v A len cap ∧ MBox u (w.heap.size + 1) m B n c ∧ u.heap[w.heap.size + 2]? = some (.cells #[.int .i64 0, .int .i64 0] 47)
theorem Trio.below {w : World} {st v : Int} {A : Option Addr} {len cap : Nat} {m : ByteArray} {B : Option Addr} {n c : Nat} {u u' : World} (h : Trio w st v A len cap m B n c u) (hb : Below u.heap.size u u') : Trio w st v A len cap m B n c u' :=
  ⟨hbt h.1 hb, h.2.1.below hb, h.2.2.1.below hb, obj_below h.2.2.2 hb⟩
theorem trio_new (w : World) (st v : Int) (A : Option Addr) (len cap : Nat) (m : ByteArray) (B : Option Addr) (n c : Nat) : Trio w st v A len cap m B n c (((w.alloc (.cells #[.int .i64 st, .int .i64 v, .slice A len cap] 24)).alloc (.cells #[.string m, .slice B n c] 45)).alloc (.cells #[.int .i64 0, .int .i64 0] 47)) :=
  ⟨hbt (hbt (below_al _ _) (below_al _ _)) (below_al _ _), ((box_new _ _ _ _ _ _).below (below_al _ _)).below (below_al _ _), obj_below (heap_al _ _ _ (by simp)) (below_al _ _), heap_al _ _ _ (by simp)⟩

set_option maxRecDepth 100000 in
set_option maxHeartbeats 3200000 in
theorem mchk_arg (st v : Int) (A : Option Addr) (ca : Nat) (sl : List Sp) (m : ByteArray) (B : Option Addr) (n cb : Nat) (w : World) (hI : Spl w A sl) (hn : sl.length ≤ 1000) (h : (schN st v sl).1 ≠ 0) :
    Calls Tryd.prog 23 #[.agg #[.int .i64 st, .int .i64 v, .slice A sl.length ca], .agg #[.string m, .slice B n cb]] w fun e w' => e = .returned (.agg #[.int .i64 1, .int .i64 (-1)]) ∧ Below w.heap.size w w' := by
  have HC := Lib.hid (fun W hW => schk_any st v A ca sl W hW hn)
  have HT := Lib.hid (trio_new w st v A sl.length ca m B n cb)
  have HI := Lib.hid (hI.below HT.out.1)
  clear hI
  generalize (schN st v sl).1 = z at *
  generalize (schN st v sl).2 = z' at *
  have tz : (z != 0) = true := by simpa using h
  generalize sl.length = len at *
  clear h
  go_enter Tryd.func23, Tryd.ntmps23
  go_wp2_with fail
  generalize ((w.alloc (.cells #[.int .i64 st, .int .i64 v, .slice A len ca] 24)).alloc (.cells #[.string m, .slice B n cb] 45)).alloc (.cells #[.int .i64 0, .int .i64 0] 47) = U at *
  refine (HC.out _ HI.out).mono ?_
  rintro e w1 ⟨rfl, hb1⟩
  have HT1 := Lib.hid (HT.out.below hb1)
  obtain ⟨r0, r1, f0, f1⟩ := obj_cells HT1.out.2.2.2
  clear hb1
  go_wp2
  refine bodyPost_ret (results_cell_row rfl _ _ (w.heap.size + 2) _ _ _ _ rfl (obj_set2 HT1.out.2.2.2 _ _) Tryd.underlying47 rfl (by kernel_rfl)) rfl ?_
  exact ⟨rfl, below_set2 HT1.out.1 (by omega) _ _⟩
set_option maxRecDepth 100000 in
set_option maxHeartbeats 3200000 in
theorem mchk_mti (st v : Int) (A : Option Addr) (ca : Nat) (sl : List Sp) (m : ByteArray) (B : Option Addr) (n cb : Nat) (w : World) (hI : Spl w A sl) (hn : sl.length ≤ 1000) (h : (schN st v sl).1 = 0) (h2 : mtiV m v = false) :
    Calls Tryd.prog 23 #[.agg #[.int .i64 st, .int .i64 v, .slice A sl.length ca], .agg #[.string m, .slice B n cb]] w fun e w' => e = .returned (.agg #[.int .i64 7, .int .i64 0]) ∧ Below w.heap.size w w' := by
  have HC := Lib.hid (fun W hW => schk_any st v A ca sl W hW hn)
  have HT := Lib.hid (trio_new w st v A sl.length ca m B n cb)
  have HI := Lib.hid (hI.below HT.out.1)
  obtain ⟨z, ok, hv, ht⟩ := mver_told m v
  have HV := Lib.hid hv
  rw [ht] at h2
  clear hI hv ht
  rw [h] at HC
  clear h
  generalize (schN st v sl).2 = z' at *
  generalize sl.length = len at *
  have htz : ok = true → (z != v) = true := fun e => by subst e; simpa using h2
  clear h2
  cases ok
  all_goals
    try (have tz := htz rfl)
    clear htz
    go_enter Tryd.func23, Tryd.ntmps23
    go_wp2_with fail
    generalize ((w.alloc (.cells #[.int .i64 st, .int .i64 v, .slice A len ca] 24)).alloc (.cells #[.string m, .slice B n cb] 45)).alloc (.cells #[.int .i64 0, .int .i64 0] 47) = U at *
    refine (HC.out _ HI.out).mono ?_
    rintro e w1 ⟨rfl, hb1⟩
    have HT1 := Lib.hid (HT.out.below hb1)
    obtain ⟨b0, b1, _, _⟩ := obj_cells HT1.out.2.2.1
    clear hb1
    go_wp2_with fail
    refine (HV.out _).mono ?_
    rintro e w2 ⟨rfl, hb2⟩
    have HT2 := Lib.hid (HT1.out.below hb2)
    obtain ⟨s0, s1, s2⟩ := obj_cells3 HT2.out.2.1
    obtain ⟨r0, r1, f0, f1⟩ := obj_cells HT2.out.2.2.2
    clear hb2 b0 b1
    go_wp2
    refine bodyPost_ret (results_cell_row rfl _ _ (w.heap.size + 2) _ _ _ _ rfl (obj_set2 HT2.out.2.2.2 _ _) Tryd.underlying47 rfl (by kernel_rfl)) rfl ?_
    exact ⟨rfl, below_set2 HT2.out.1 (by omega) _ _⟩
set_option maxRecDepth 100000 in
set_option maxHeartbeats 6400000 in
theorem mchk_list (st v : Int) (A : Option Addr) (ca : Nat) (sl : List Sp) (m : ByteArray) (B : Option Addr) (cb : Nat) (l : List Item) (w : World) (hK : Kinds w) (hI : Spl w A sl) (hB : Tlvs w B l) (hn : sl.length ≤ 1000) (hl : l.length ≤ 1000) (hs : ∀ x ∈ l, x.2.size ≤ maxLen) (h : (schN st v sl).1 = 0) (h2 : mtiV m v = true) :
    Calls Tryd.prog 23 #[.agg #[.int .i64 st, .int .i64 v, .slice A sl.length ca], .agg #[.string m, .slice B l.length cb]] w fun e w' => e = .returned (.agg #[.int .i64 (msgL sl 0 l).1, .int .i64 (msgL sl 0 l).2]) ∧ Below w.heap.size w w' := by
  have HC := Lib.hid (fun W hW => schk_any st v A ca sl W hW hn)
  have HF : Hid (∀ (k : Nat) (n : Int) (s : ByteArray) (last : Int) W, k < l.length → itemAt l k = (n, s) → Kinds W → Spl W A sl → Calls Tryd.prog 48 #[.agg #[.int .i64 st, .int .i64 v, .slice A sl.length ca], .agg #[.int .i64 n, .string s], .int .i64 last] W fun e w' => e = .returned (.int .i64 (fldE sl last (n, s))) ∧ Below W.heap.size W w') := fun k n s last W hk hx h1 h2 => mfield_any st v A ca sl n s last W h1 h2 hn (by
    have h3 := hs _ (List.getElem_mem hk)
    rw [← itemAt_get hk, hx] at h3
    exact h3)
  have HT := Lib.hid (trio_new w st v A sl.length ca m B l.length cb)
  have HI := Lib.hid (hI.below HT.out.1)
  have HL := Lib.hid (hB.below HT.out.1)
  have HKD := Lib.hid (hK.below HT.out.1)
  obtain ⟨z, ok, hv, ht⟩ := mver_told m v
  have HV := Lib.hid hv
  rw [ht] at h2
  clear hI hv ht hB hK hs
  rw [h] at HC
  clear h
  generalize (schN st v sl).2 = z' at *
  generalize sl.length = len at *
  generalize hlen : l.length = ln at *
  have HLEN := Lib.hid hlen
  clear hlen
  simp only [Bool.and_eq_true, decide_eq_true_eq] at h2
  obtain ⟨rfl, rfl⟩ := h2
  generalize hR : msgL sl 0 l = R
  have HR0 := Lib.hid hR
  clear hR
  go_enter Tryd.func23, Tryd.ntmps23
  go_wp2_with fail
  generalize ((w.alloc (.cells #[.int .i64 st, .int .i64 z, .slice A len ca] 24)).alloc (.cells #[.string m, .slice B ln cb] 45)).alloc (.cells #[.int .i64 0, .int .i64 0] 47) = U at *
  refine (HC.out _ HI.out).mono ?_
  rintro e w1 ⟨rfl, hb1⟩
  have HT1 := Lib.hid (HT.out.below hb1)
  have HI1 := Lib.hid (HI.out.below hb1)
  have HL1 := Lib.hid (HL.out.below hb1)
  have HK1 := Lib.hid (HKD.out.below hb1)
  obtain ⟨b0, b1, _, _⟩ := obj_cells HT1.out.2.2.1
  clear hb1 HT HI HL HKD
  go_wp2_with fail
  refine (HV.out _).mono ?_
  rintro e w2 ⟨rfl, hb2⟩
  have HT2 := Lib.hid (HT1.out.below hb2)
  have HI2 := Lib.hid (HI1.out.below hb2)
  have HL2 := Lib.hid (HL1.out.below hb2)
  have HK2 := Lib.hid (HK1.out.below hb2)
  obtain ⟨s0, s1, s2⟩ := obj_cells3 HT2.out.2.1
  obtain ⟨b0, b1, _, _⟩ := obj_cells HT2.out.2.2.1
  clear hb2 HT1 HI1 HL1 HK1
  go_wp2_with fail
  clear s0 s1 s2 b0 b1
  go_loopw [9, 39] (fun y i wr => ∃ (k : Nat) (last : Int), k ≤ ln ∧ i = .int .i64 (k : Int) ∧ y = .int .i64 last ∧ msgL sl last (l.drop k) = R ∧ Below w2.heap.size w2 wr) (fun _ i _ => ln - (intOf i).toNat)
  case atStart => exact ⟨0, 0, Nat.zero_le _, rfl, rfl, HR0.out, Below.refl _ _⟩
  case round =>
    obtain ⟨k, last, hk, rfl, rfl, hrest, hb⟩ := hrel
    have HR := Lib.hid hrest
    have HB := Lib.hid hb
    clear hrest hb
    by_cases hlt : k < ln
    · have hkl : k < l.length := by have := HLEN.out; omega
      obtain ⟨a, n, s, rfl, hx, c0, c1⟩ := (HL2.out.below HB.out).at_ hkl
      have HD := Lib.hid (drop_item hkl)
      rw [hx] at HD
      have HFK := Lib.hid (fun W h1 h2 => HF.out k n s last W (by omega) hx h1 h2)
      have HB1 := Lib.hid (hbt HB.out (below_al wr (.cells #[.int .i64 n, .string s] 63)))
      have HV1 := Lib.hid (heap_alloc_new wr (.cells #[.int .i64 n, .string s] 63))
      obtain ⟨s0, s1, s2⟩ := obj_cells3 (HT2.out.below HB.out).2.1
      have hz := obj_lt (HT2.out.below HB.out).2.1
      have HEB := Lib.hid (fun h => msgL_bad (sl := sl) (last := last) (x := (n, s)) (r := l.drop (k + 1)) h)
      have HEO := Lib.hid (fun h => msgL_ok (sl := sl) (last := last) (x := (n, s)) (r := l.drop (k + 1)) h)
      dsimp only at HEB HEO
      clear hx hkl
      generalize fldE sl last (n, s) = z2 at *
      by_cases hz2 : z2 = 0
      · subst hz2
        have HE := Lib.hid (HEO.out rfl)
        clear HEB HEO
        go_wp2_with fail
        generalize wr.alloc (.cells #[.int .i64 n, .string s] 63) = W1 at *
        refine (HFK.out _ (HK2.out.below HB1.out) (HI2.out.below HB1.out)).mono ?_
        rintro e w3 ⟨rfl, hb3⟩
        have HB3 := Lib.hid (hbt HB1.out hb3)
        obtain ⟨v0, v1, _, _⟩ := obj_cells (obj_below HV1.out hb3)
        clear hb3 c0 c1 s0 s1 s2
        go_wp2
        go_roundw
        case rel => exact ⟨k + 1, n, by omega, by go_num, rfl, by rw [← HR.out, HD.out, HE.out], HB3.out⟩
        case measure => simp [intOf]; omega
      · have tz : (z2 != 0) = true := by simpa using hz2
        have HE := Lib.hid (HEB.out hz2)
        clear HEB HEO hz2
        go_wp2_with fail
        generalize wr.alloc (.cells #[.int .i64 n, .string s] 63) = W1 at *
        refine (HFK.out _ (HK2.out.below HB1.out) (HI2.out.below HB1.out)).mono ?_
        rintro e w3 ⟨rfl, hb3⟩
        have HT3 := Lib.hid (HT2.out.below (hbt HB1.out hb3))
        obtain ⟨v0, v1, _, _⟩ := obj_cells (obj_below HV1.out hb3)
        obtain ⟨r0, r1, f0, f1⟩ := obj_cells HT3.out.2.2.2
        clear hb3 c0 c1 s0 s1 s2
        go_wp2
        refine bodyPost_ret (results_cell_row rfl _ _ (w.heap.size + 2) _ _ _ _ rfl (obj_set2 HT3.out.2.2.2 _ _) Tryd.underlying47 rfl (by kernel_rfl)) rfl ?_
        exact ⟨by rw [← HR.out, HD.out, HE.out], below_set2 HT3.out.1 (by omega) _ _⟩
    · have HE := Lib.hid (items_end (l := l) (k := k) (by have := HLEN.out; omega))
      have HT3 := Lib.hid (HT2.out.below HB.out)
      obtain ⟨r0, r1, f0, f1⟩ := obj_cells HT3.out.2.2.2
      go_wp2
      refine bodyPost_ret (results_cell_row rfl _ _ (w.heap.size + 2) _ _ _ _ rfl (obj_set2 HT3.out.2.2.2 _ _) Tryd.underlying47 rfl (by kernel_rfl)) rfl ?_
      exact ⟨by rw [← HR.out, HE.out]; rfl, below_set2 HT3.out.1 (by omega) _ _⟩
theorem mcheck_any (st v : Int) (A : Option Addr) (ca : Nat) (sl : List Sp) (m : ByteArray) (B : Option Addr) (cb : Nat) (l : List Item) (w : World) (hK : Kinds w) (hI : Spl w A sl) (hB : Tlvs w B l) (hn : sl.length ≤ 1000) (hl : l.length ≤ 1000) (hs : ∀ x ∈ l, x.2.size ≤ maxLen) :
    Calls Tryd.prog 23 #[.agg #[.int .i64 st, .int .i64 v, .slice A sl.length ca], .agg #[.string m, .slice B l.length cb]] w fun e w' => e = .returned (.agg #[.int .i64 (msgN st v sl m l).1, .int .i64 (msgN st v sl m l).2]) ∧ Below w.heap.size w w' := by
  by_cases h : (schN st v sl).1 = 0
  · cases h2 : mtiV m v
    · rw [msgN_mti h h2]; exact mchk_mti st v A ca sl m B _ cb w hI hn h h2
    · rw [msgN_list h h2]; exact mchk_list st v A ca sl m B cb l w hK hI hB hn hl hs h h2
  · rw [msgN_arg h]; exact mchk_arg st v A ca sl m B _ cb w hI hn h

end Go.Proofs.YtnbllngljgmebaaDoor

/-
  What the document's Check answers: for every schema and message of up to 1000 specs and fields, in every world.
-/
namespace Go.Proofs.YtnbllngljgmebaaDoor
open Go.RowKit

set_option maxRecDepth 100000 in
set_option maxHeartbeats 3200000 in
theorem mrchk_arg (st v : Int) (A : Option Addr) (ca : Nat) (sl : List Sp) (m : ByteArray) (B : Option Addr) (n cb : Nat) (w : World) (hI : Spl w A sl) (hn : sl.length ≤ 1000) (h : (schN st v sl).1 ≠ 0) :
    Calls Tryd.prog 21 #[.agg #[.int .i64 st, .int .i64 v, .slice A sl.length ca], .agg #[.string m, .slice B n cb]] w fun e w' => e = .returned (.agg #[.int .i64 1, .int .i64 (-1)]) ∧ Below w.heap.size w w' := by
  have HC := Lib.hid (fun W hW => sright_any st v A ca sl W hW hn)
  have HT := Lib.hid (trio_new w st v A sl.length ca m B n cb)
  have HI := Lib.hid (hI.below HT.out.1)
  rw [decide_eq_false h] at HC
  clear hI h
  generalize sl.length = len at *
  go_enter Tryd.func21, Tryd.ntmps21
  go_wp2_with fail
  generalize ((w.alloc (.cells #[.int .i64 st, .int .i64 v, .slice A len ca] 24)).alloc (.cells #[.string m, .slice B n cb] 45)).alloc (.cells #[.int .i64 0, .int .i64 0] 47) = U at *
  refine (HC.out _ HI.out).mono ?_
  rintro e w1 ⟨rfl, hb1⟩
  have HT1 := Lib.hid (HT.out.below hb1)
  obtain ⟨r0, r1, f0, f1⟩ := obj_cells HT1.out.2.2.2
  clear hb1
  go_wp2
  refine bodyPost_ret (results_cell_row rfl _ _ (w.heap.size + 2) _ _ _ _ rfl (obj_set2 HT1.out.2.2.2 _ _) Tryd.underlying47 rfl (by kernel_rfl)) rfl ?_
  exact ⟨rfl, below_set2 HT1.out.1 (by omega) _ _⟩
set_option maxRecDepth 100000 in
set_option maxHeartbeats 3200000 in
theorem mrchk_none (st v : Int) (A : Option Addr) (ca : Nat) (sl : List Sp) (m : ByteArray) (B : Option Addr) (n cb : Nat) (w : World) (hI : Spl w A sl) (hn : sl.length ≤ 1000) (hm : m.size ≤ maxLen) (h : (schN st v sl).1 = 0) (h2 : mtiB m.data.toList = false) :
    Calls Tryd.prog 21 #[.agg #[.int .i64 st, .int .i64 v, .slice A sl.length ca], .agg #[.string m, .slice B n cb]] w fun e w' => e = .returned (.agg #[.int .i64 7, .int .i64 0]) ∧ Below w.heap.size w w' := by
  have HC := Lib.hid (fun W hW => sright_any st v A ca sl W hW hn)
  have HM := Lib.hid (fun W => mrefRight_any m W hm)
  have HT := Lib.hid (trio_new w st v A sl.length ca m B n cb)
  have HI := Lib.hid (hI.below HT.out.1)
  rw [decide_eq_true h] at HC
  rw [h2] at HM
  clear hI h h2 hm
  generalize sl.length = len at *
  go_enter Tryd.func21, Tryd.ntmps21
  go_wp2_with fail
  generalize ((w.alloc (.cells #[.int .i64 st, .int .i64 v, .slice A len ca] 24)).alloc (.cells #[.string m, .slice B n cb] 45)).alloc (.cells #[.int .i64 0, .int .i64 0] 47) = U at *
  refine (HC.out _ HI.out).mono ?_
  rintro e w1 ⟨rfl, hb1⟩
  have HT1 := Lib.hid (HT.out.below hb1)
  clear hb1
  go_wp2_with fail
  refine wp_region_noPanic ?_
  refine wp_region_held_drew (S := (fun u => Below w1.heap.size w1 u)) (by kernel_rfl) ((Below.refl _ _).drew) (fun hS => ?_)
  refine gv 0 (v := ?_) (fun u hu => ?_) hS ?_
  rotate_left
  · ((have hT := HT1.out.below hu; obtain ⟨b0, b1, b2⟩ := obj_cells3 hT.2.1; obtain ⟨b3, b4, _, _⟩ := obj_cells hT.2.2.1; clear hT); go_simp; try (with_reducible rfl))
  try simp only [puts]
  refine gv 1 (v := ?_) (fun u hu => ?_) hS ?_
  rotate_left
  · ((have hT := HT1.out.below hu; obtain ⟨b0, b1, b2⟩ := obj_cells3 hT.2.1; obtain ⟨b3, b4, _, _⟩ := obj_cells hT.2.2.1; clear hT); go_simp; try (with_reducible rfl))
  try simp only [puts]
  refine only_call (i := 2) 44 #[.string m] rfl (by kernel_rfl) (by rfl) ((HM.out _).mono fun e w' he => ⟨he.1, he.2 ▸ hS⟩) ?_ ?_
  · (go_simp; try (with_reducible rfl))
  clear hS
  intro w2 hS
  try simp only [puts]
  refine gv 3 (v := ?_) (fun u hu => ?_) hS ?_
  rotate_left
  · ((have hT := HT1.out.below hu; obtain ⟨b0, b1, b2⟩ := obj_cells3 hT.2.1; obtain ⟨b3, b4, _, _⟩ := obj_cells hT.2.2.1; clear hT); go_simp; try (with_reducible rfl))
  try simp only [puts]
  refine gv 4 (v := ?_) (fun u hu => ?_) hS ?_
  rotate_left
  · ((have hT := HT1.out.below hu; obtain ⟨b0, b1, b2⟩ := obj_cells3 hT.2.1; obtain ⟨b3, b4, _, _⟩ := obj_cells hT.2.2.1; clear hT); go_simp; try (with_reducible rfl))
  try simp only [puts]
  refine gs 5 hS ?_
  try simp only [puts]
  refine gs 6 hS ?_
  try simp only [puts]
  refine gs 7 hS ?_
  try simp only [puts]
  refine gs 8 hS ?_
  try simp only [puts]
  refine gs 9 hS ?_
  try simp only [puts]
  refine gs 10 hS ?_
  try simp only [puts]
  refine gs 11 hS ?_
  try simp only [puts]
  refine gs 12 hS ?_
  try simp only [puts]
  refine gv 13 (v := ?_) (fun u hu => ?_) hS ?_
  rotate_left
  · ((have hT := HT1.out.below hu; obtain ⟨b0, b1, b2⟩ := obj_cells3 hT.2.1; obtain ⟨b3, b4, _, _⟩ := obj_cells hT.2.2.1; clear hT); go_simp; try (with_reducible rfl))
  try simp only [puts]
  refine wpAnyH_done (by kernel_rfl) (NoPanic.normal ?_) _
  have HT2 := Lib.hid (HT1.out.below hS)
  obtain ⟨r0, r1, f0, f1⟩ := obj_cells HT2.out.2.2.2
  clear hS
  go_wp2
  refine bodyPost_ret (results_cell_row rfl _ _ (w.heap.size + 2) _ _ _ _ rfl (obj_set2 HT2.out.2.2.2 _ _) Tryd.underlying47 rfl (by kernel_rfl)) rfl ?_
  exact ⟨rfl, below_set2 HT2.out.1 (by omega) _ _⟩
set_option maxRecDepth 100000 in
set_option maxHeartbeats 3200000 in
theorem mrchk_version (st v : Int) (A : Option Addr) (ca : Nat) (sl : List Sp) (m : ByteArray) (y : Int) (c0 : Nat) (B : Option Addr) (n cb : Nat) (w : World) (hI : Spl w A sl) (hn : sl.length ≤ 1000) (hm : m.size ≤ maxLen) (h : (schN st v sl).1 = 0) (h2 : mtiB m.data.toList = true)
    (hix : ∀ W, (Instr.index 9 (.string m) (.int .i64 0)).run Tryd.prog W = .ok (.int .u8 (c0 : Int)) W) (hc : c0 < 256) (hy : (c0 : Int) - 48 = y) (hv : y ≠ v) :
    Calls Tryd.prog 21 #[.agg #[.int .i64 st, .int .i64 v, .slice A sl.length ca], .agg #[.string m, .slice B n cb]] w fun e w' => e = .returned (.agg #[.int .i64 7, .int .i64 0]) ∧ Below w.heap.size w w' := by
  have HC := Lib.hid (fun W hW => sright_any st v A ca sl W hW hn)
  have HM := Lib.hid (fun W => mrefRight_any m W hm)
  have HT := Lib.hid (trio_new w st v A sl.length ca m B n cb)
  have HI := Lib.hid (hI.below HT.out.1)
  have tv : (y != v) = true := by simpa using hv
  have hci : (c0 : Int) < 1000 := by omega
  have HY : Hid ((c0 : Int) - 48 = y ∧ (c0 : Int) < 1000) := ⟨hy, hci⟩
  have hwr : IntKind.i64.wrap (c0 : Int) = (c0 : Int) := IntWalk.i64_in _ (by omega)
  rw [decide_eq_true h] at HC
  rw [h2] at HM
  clear hI h h2 hm hc hy hv
  generalize sl.length = len at *
  go_enter Tryd.func21, Tryd.ntmps21
  go_wp2_with fail
  generalize ((w.alloc (.cells #[.int .i64 st, .int .i64 v, .slice A len ca] 24)).alloc (.cells #[.string m, .slice B n cb] 45)).alloc (.cells #[.int .i64 0, .int .i64 0] 47) = U at *
  refine (HC.out _ HI.out).mono ?_
  rintro e w1 ⟨rfl, hb1⟩
  have HT1 := Lib.hid (HT.out.below hb1)
  clear hb1
  go_wp2_with fail
  refine wp_region_noPanic ?_
  refine wp_region_held_drew (S := (fun u => Below w1.heap.size w1 u)) (by kernel_rfl) ((Below.refl _ _).drew) (fun hS => ?_)
  refine gv 0 (v := ?_) (fun u hu => ?_) hS ?_
  rotate_left
  · ((have hT := HT1.out.below hu; obtain ⟨b0, b1, b2⟩ := obj_cells3 hT.2.1; obtain ⟨b3, b4, _, _⟩ := obj_cells hT.2.2.1; clear hT); go_simp; try (with_reducible rfl))
  try simp only [puts]
  refine gv 1 (v := ?_) (fun u hu => ?_) hS ?_
  rotate_left
  · ((have hT := HT1.out.below hu; obtain ⟨b0, b1, b2⟩ := obj_cells3 hT.2.1; obtain ⟨b3, b4, _, _⟩ := obj_cells hT.2.2.1; clear hT); go_simp; try (with_reducible rfl))
  try simp only [puts]
  refine only_call (i := 2) 44 #[.string m] rfl (by kernel_rfl) (by rfl) ((HM.out _).mono fun e w' he => ⟨he.1, he.2 ▸ hS⟩) ?_ ?_
  · (go_simp; try (with_reducible rfl))
  clear hS
  intro w2 hS
  try simp only [puts]
  refine gv 3 (v := ?_) (fun u hu => ?_) hS ?_
  rotate_left
  · ((have hT := HT1.out.below hu; obtain ⟨b0, b1, b2⟩ := obj_cells3 hT.2.1; obtain ⟨b3, b4, _, _⟩ := obj_cells hT.2.2.1; clear hT); go_simp; try (with_reducible rfl))
  try simp only [puts]
  refine gv 4 (v := ?_) (fun u hu => ?_) hS ?_
  rotate_left
  · ((have hT := HT1.out.below hu; obtain ⟨b0, b1, b2⟩ := obj_cells3 hT.2.1; obtain ⟨b3, b4, _, _⟩ := obj_cells hT.2.2.1; clear hT); go_simp; try (with_reducible rfl))
  try simp only [puts]
  refine gv 5 (v := ?_) (fun u hu => ?_) hS ?_
  rotate_left
  · ((have hT := HT1.out.below hu; obtain ⟨b0, b1, b2⟩ := obj_cells3 hT.2.1; obtain ⟨b3, b4, _, _⟩ := obj_cells hT.2.2.1; clear hT); go_simp; try (with_reducible rfl))
  try simp only [puts]
  refine gv 6 (v := ?_) (fun u hu => ?_) hS ?_
  rotate_left
  · ((have hT := HT1.out.below hu; obtain ⟨b0, b1, b2⟩ := obj_cells3 hT.2.1; obtain ⟨b3, b4, _, _⟩ := obj_cells hT.2.2.1; clear hT); go_simp; try (with_reducible rfl))
  try simp only [puts]
  refine gv 7 (v := ?_) (fun u hu => ?_) hS ?_
  rotate_left
  · ((have hT := HT1.out.below hu; obtain ⟨b0, b1, b2⟩ := obj_cells3 hT.2.1; obtain ⟨b3, b4, _, _⟩ := obj_cells hT.2.2.1; clear hT); go_simp; try (with_reducible rfl))
  try simp only [puts]
  refine gv 8 (v := ?_) (fun u hu => ?_) hS ?_
  rotate_left
  · ((have hT := HT1.out.below hu; obtain ⟨b0, b1, b2⟩ := obj_cells3 hT.2.1; obtain ⟨b3, b4, _, _⟩ := obj_cells hT.2.2.1; clear hT); go_simp; try (with_reducible rfl))
  try simp only [puts]
  refine gv 9 (v := (.int .i64 y)) (fun u hu => ?_) hS ?_
  · ((have hT := HT1.out.below hu; obtain ⟨b0, b1, b2⟩ := obj_cells3 hT.2.1; obtain ⟨b3, b4, _, _⟩ := obj_cells hT.2.2.1; clear hT); go_simp; (have h9 := HY.out; first | omega | (rw [IntWalk.i64_in _ (by omega)]; omega)))
  try simp only [puts]
  refine gv 10 (v := ?_) (fun u hu => ?_) hS ?_
  rotate_left
  · ((have hT := HT1.out.below hu; obtain ⟨b0, b1, b2⟩ := obj_cells3 hT.2.1; obtain ⟨b3, b4, _, _⟩ := obj_cells hT.2.2.1; clear hT); go_simp; try (with_reducible rfl))
  try simp only [puts]
  refine gv 11 (v := ?_) (fun u hu => ?_) hS ?_
  rotate_left
  · ((have hT := HT1.out.below hu; obtain ⟨b0, b1, b2⟩ := obj_cells3 hT.2.1; obtain ⟨b3, b4, _, _⟩ := obj_cells hT.2.2.1; clear hT); go_simp; try (with_reducible rfl))
  try simp only [puts]
  refine gv 12 (v := ?_) (fun u hu => ?_) hS ?_
  rotate_left
  · ((have hT := HT1.out.below hu; obtain ⟨b0, b1, b2⟩ := obj_cells3 hT.2.1; obtain ⟨b3, b4, _, _⟩ := obj_cells hT.2.2.1; clear hT); go_simp; try (with_reducible rfl))
  try simp only [puts]
  refine gv 13 (v := ?_) (fun u hu => ?_) hS ?_
  rotate_left
  · ((have hT := HT1.out.below hu; obtain ⟨b0, b1, b2⟩ := obj_cells3 hT.2.1; obtain ⟨b3, b4, _, _⟩ := obj_cells hT.2.2.1; clear hT); go_simp; try (with_reducible rfl))
  try simp only [puts]
  refine wpAnyH_done (by kernel_rfl) (NoPanic.normal ?_) _
  have HT2 := Lib.hid (HT1.out.below hS)
  obtain ⟨r0, r1, f0, f1⟩ := obj_cells HT2.out.2.2.2
  clear hS
  go_wp2
  refine bodyPost_ret (results_cell_row rfl _ _ (w.heap.size + 2) _ _ _ _ rfl (obj_set2 HT2.out.2.2.2 _ _) Tryd.underlying47 rfl (by kernel_rfl)) rfl ?_
  exact ⟨rfl, below_set2 HT2.out.1 (by omega) _ _⟩
set_option maxRecDepth 100000 in
set_option maxHeartbeats 12800000 in
theorem mrchk_list (st v : Int) (A : Option Addr) (ca : Nat) (sl : List Sp) (m : ByteArray) (c0 : Nat) (B : Option Addr) (cb : Nat) (l : List Item) (w : World) (hI : Spl w A sl) (hL : Tlvs w B l) (hn : sl.length ≤ 1000) (hl : l.length ≤ 1000) (hs : ∀ x ∈ l, x.2.size ≤ maxLen) (hm : m.size ≤ maxLen) (h : (schN st v sl).1 = 0) (h2 : mtiB m.data.toList = true)
    (hix : ∀ W, (Instr.index 9 (.string m) (.int .i64 0)).run Tryd.prog W = .ok (.int .u8 (c0 : Int)) W) (hc : c0 < 256) (hy : (c0 : Int) - 48 = v) :
    Calls Tryd.prog 21 #[.agg #[.int .i64 st, .int .i64 v, .slice A sl.length ca], .agg #[.string m, .slice B l.length cb]] w fun e w' => e = .returned (.agg #[.int .i64 (msgL sl 0 l).1, .int .i64 (msgL sl 0 l).2]) ∧ Below w.heap.size w w' := by
  have HC := Lib.hid (fun W hW => sright_any st v A ca sl W hW hn)
  have HM := Lib.hid (fun W => mrefRight_any m W hm)
  have HF := Lib.hid (fun (n : Int) W hW => sreffind_any st v A ca sl n W hW hn)
  have HSV : Hid (∀ (k : Nat) (n : Int) (s : ByteArray) (x1 x2 x3 x4 x5 : Int) W, k < l.length → itemAt l k = (n, s) → Calls Tryd.prog 35 #[.agg #[.int .i64 x1, .int .i64 x2, .int .i64 x3, .int .i64 x4, .int .i64 x5], .string s] W fun e w' => e = .returned (.int .i64 (spvS (x1, x2, x3, x4, x5) s)) ∧ Below W.heap.size W w') := fun k n s x1 x2 x3 x4 x5 W hk hx => sprefValue_any x1 x2 x3 x4 x5 s W (by
    have h3 := hs _ (List.getElem_mem hk)
    rw [← itemAt_get hk, hx] at h3
    exact h3)
  have HT := Lib.hid (trio_new w st v A sl.length ca m B l.length cb)
  have HI := Lib.hid (hI.below HT.out.1)
  have HL := Lib.hid (hL.below HT.out.1)
  have hci : (c0 : Int) < 1000 := by omega
  have HY : Hid ((c0 : Int) - 48 = v ∧ (c0 : Int) < 1000) := ⟨hy, hci⟩
  have hwr : IntKind.i64.wrap (c0 : Int) = (c0 : Int) := IntWalk.i64_in _ (by omega)
  rw [decide_eq_true h] at HC
  rw [h2] at HM
  clear hI hL h h2 hm hc hy hs
  generalize hsl : sl.length = len at *
  have HSL := Lib.hid hsl
  clear hsl
  generalize hlen : l.length = ln at *
  have HLEN := Lib.hid hlen
  clear hlen
  generalize hR : msgL sl 0 l = R
  have HR0 := Lib.hid hR
  clear hR
  go_enter Tryd.func21, Tryd.ntmps21
  go_wp2_with fail
  generalize ((w.alloc (.cells #[.int .i64 st, .int .i64 v, .slice A len ca] 24)).alloc (.cells #[.string m, .slice B ln cb] 45)).alloc (.cells #[.int .i64 0, .int .i64 0] 47) = U at *
  refine (HC.out _ HI.out).mono ?_
  rintro e w1 ⟨rfl, hb1⟩
  have HT1 := Lib.hid (HT.out.below hb1)
  have HI1 := Lib.hid (HI.out.below hb1)
  have HL1 := Lib.hid (HL.out.below hb1)
  clear hb1 HT HI HL HC
  go_wp2_with fail
  refine wp_region_noPanic ?_
  refine wp_region_held_drew (S := (fun u => Below w1.heap.size w1 u)) (by kernel_rfl) ((Below.refl _ _).drew) (fun hS => ?_)
  refine gv 0 (v := ?_) (fun u hu => ?_) hS ?_
  rotate_left
  · ((have hT := HT1.out.below hu; obtain ⟨b0, b1, b2⟩ := obj_cells3 hT.2.1; obtain ⟨b3, b4, _, _⟩ := obj_cells hT.2.2.1; clear hT); go_simp; try (with_reducible rfl))
  try simp only [puts]
  refine gv 1 (v := ?_) (fun u hu => ?_) hS ?_
  rotate_left
  · ((have hT := HT1.out.below hu; obtain ⟨b0, b1, b2⟩ := obj_cells3 hT.2.1; obtain ⟨b3, b4, _, _⟩ := obj_cells hT.2.2.1; clear hT); go_simp; try (with_reducible rfl))
  try simp only [puts]
  refine only_call (i := 2) 44 #[.string m] rfl (by kernel_rfl) (by rfl) ((HM.out _).mono fun e w' he => ⟨he.1, he.2 ▸ hS⟩) ?_ ?_
  · (go_simp; try (with_reducible rfl))
  clear hS
  intro w2 hS
  try simp only [puts]
  refine gv 3 (v := ?_) (fun u hu => ?_) hS ?_
  rotate_left
  · ((have hT := HT1.out.below hu; obtain ⟨b0, b1, b2⟩ := obj_cells3 hT.2.1; obtain ⟨b3, b4, _, _⟩ := obj_cells hT.2.2.1; clear hT); go_simp; try (with_reducible rfl))
  try simp only [puts]
  refine gv 4 (v := ?_) (fun u hu => ?_) hS ?_
  rotate_left
  · ((have hT := HT1.out.below hu; obtain ⟨b0, b1, b2⟩ := obj_cells3 hT.2.1; obtain ⟨b3, b4, _, _⟩ := obj_cells hT.2.2.1; clear hT); go_simp; try (with_reducible rfl))
  try simp only [puts]
  refine gv 5 (v := ?_) (fun u hu => ?_) hS ?_
  rotate_left
  · ((have hT := HT1.out.below hu; obtain ⟨b0, b1, b2⟩ := obj_cells3 hT.2.1; obtain ⟨b3, b4, _, _⟩ := obj_cells hT.2.2.1; clear hT); go_simp; try (with_reducible rfl))
  try simp only [puts]
  refine gv 6 (v := ?_) (fun u hu => ?_) hS ?_
  rotate_left
  · ((have hT := HT1.out.below hu; obtain ⟨b0, b1, b2⟩ := obj_cells3 hT.2.1; obtain ⟨b3, b4, _, _⟩ := obj_cells hT.2.2.1; clear hT); go_simp; try (with_reducible rfl))
  try simp only [puts]
  refine gv 7 (v := ?_) (fun u hu => ?_) hS ?_
  rotate_left
  · ((have hT := HT1.out.below hu; obtain ⟨b0, b1, b2⟩ := obj_cells3 hT.2.1; obtain ⟨b3, b4, _, _⟩ := obj_cells hT.2.2.1; clear hT); go_simp; try (with_reducible rfl))
  try simp only [puts]
  refine gv 8 (v := ?_) (fun u hu => ?_) hS ?_
  rotate_left
  · ((have hT := HT1.out.below hu; obtain ⟨b0, b1, b2⟩ := obj_cells3 hT.2.1; obtain ⟨b3, b4, _, _⟩ := obj_cells hT.2.2.1; clear hT); go_simp; try (with_reducible rfl))
  try simp only [puts]
  refine gv 9 (v := (.int .i64 v)) (fun u hu => ?_) hS ?_
  · ((have hT := HT1.out.below hu; obtain ⟨b0, b1, b2⟩ := obj_cells3 hT.2.1; obtain ⟨b3, b4, _, _⟩ := obj_cells hT.2.2.1; clear hT); go_simp; (have h9 := HY.out; first | omega | (rw [IntWalk.i64_in _ (by omega)]; omega)))
  try simp only [puts]
  refine gv 10 (v := ?_) (fun u hu => ?_) hS ?_
  rotate_left
  · ((have hT := HT1.out.below hu; obtain ⟨b0, b1, b2⟩ := obj_cells3 hT.2.1; obtain ⟨b3, b4, _, _⟩ := obj_cells hT.2.2.1; clear hT); go_simp; try (with_reducible rfl))
  try simp only [puts]
  refine gv 11 (v := ?_) (fun u hu => ?_) hS ?_
  rotate_left
  · ((have hT := HT1.out.below hu; obtain ⟨b0, b1, b2⟩ := obj_cells3 hT.2.1; obtain ⟨b3, b4, _, _⟩ := obj_cells hT.2.2.1; clear hT); go_simp; try (with_reducible rfl))
  try simp only [puts]
  refine gv 12 (v := ?_) (fun u hu => ?_) hS ?_
  rotate_left
  · ((have hT := HT1.out.below hu; obtain ⟨b0, b1, b2⟩ := obj_cells3 hT.2.1; obtain ⟨b3, b4, _, _⟩ := obj_cells hT.2.2.1; clear hT); go_simp; try (with_reducible rfl))
  try simp only [puts]
  refine gv 13 (v := ?_) (fun u hu => ?_) hS ?_
  rotate_left
  · ((have hT := HT1.out.below hu; obtain ⟨b0, b1, b2⟩ := obj_cells3 hT.2.1; obtain ⟨b3, b4, _, _⟩ := obj_cells hT.2.2.1; clear hT); go_simp; try (with_reducible rfl))
  try simp only [puts]
  refine wpAnyH_done (by kernel_rfl) (NoPanic.normal ?_) _
  clear hwr hix hci HY
  have HT2 := Lib.hid (HT1.out.below hS)
  have HI2 := Lib.hid (HI1.out.below hS)
  have HL2 := Lib.hid (HL1.out.below hS)
  clear hS HT1 HI1 HL1
  rename World => w2
  go_wp2_with fail
  go_loopw [5, 6] (fun y i wr => ∃ (k : Nat) (last : Int), k ≤ ln ∧ i = .int .i64 (k : Int) ∧ y = .int .i64 last ∧ msgL sl last (l.drop k) = R ∧ Below w2.heap.size w2 wr) (fun _ i _ => ln - (intOf i).toNat)
  case atStart => exact ⟨0, 0, Nat.zero_le _, rfl, rfl, HR0.out, Below.refl _ _⟩
  case round =>
    obtain ⟨k, last, hk, rfl, rfl, hrest, hb⟩ := hrel
    have HR := Lib.hid hrest
    have HT3 := Lib.hid (HT2.out.below hb)
    have HI3 := Lib.hid (HI2.out.below hb)
    have HL3 := Lib.hid (HL2.out.below hb)
    have HB := Lib.hid hb
    obtain ⟨b0, b1, b2⟩ := obj_cells3 HT3.out.2.1
    obtain ⟨b3, b4, _, _⟩ := obj_cells HT3.out.2.2.1
    clear hrest hb
    by_cases hlt : k < ln
    · have hkl : k < l.length := by have := HLEN.out; omega
      obtain ⟨a, n, s, rfl, hx, c0, c1⟩ := HL3.out.at_ hkl
      have HD := Lib.hid (drop_item hkl)
      rw [hx] at HD
      have HIT := Lib.hid hx
      have HKL := Lib.hid hkl
      have HSK := Lib.hid (fun x1 x2 x3 x4 x5 W => HSV.out k n s x1 x2 x3 x4 x5 W hlt hx)
      have HEB := Lib.hid (fun h => msgL_bad (sl := sl) (last := last) (x := (n, s)) (r := l.drop (k + 1)) h)
      have HEO := Lib.hid (fun h => msgL_ok (sl := sl) (last := last) (x := (n, s)) (r := l.drop (k + 1)) h)
      dsimp only at HEB HEO
      clear hx hkl
      by_cases ho : n ≤ last
      · have tord : decide (n ≤ last) = true := by simpa using ho
        have HE := Lib.hid ((HEB.out (by rw [fldE_order ho]; decide)).trans (by rw [fldE_order ho]))
        obtain ⟨r0, r1, f0, f1⟩ := obj_cells HT3.out.2.2.2
        clear HEB HEO ho
        go_wp2
        refine bodyPost_ret (results_cell_row rfl _ _ (w.heap.size + 2) _ _ _ _ rfl (obj_set2 HT3.out.2.2.2 _ _) Tryd.underlying47 rfl (by kernel_rfl)) rfl ?_
        exact ⟨by rw [← HR.out, HD.out, HE.out], below_set2 HT3.out.1 (by omega) _ _⟩
      · have tord : decide (n ≤ last) = false := by simpa using ho
        have HFN := Lib.hid (fun W hW => HF.out n W hW)
        have HN := Lib.hid (fldE_none (sl := sl) (last := last) (x := (n, s)) ho)
        have HV := Lib.hid (fldE_val (sl := sl) (last := last) (x := (n, s)) ho)
        dsimp only at HN HV
        clear ho
        rcases fnd_rel n sl 0 with ⟨g1, g2⟩ | ⟨k2, hk2, g2, g1⟩
        · rw [g2] at HFN
          have hE : fldE sl last (n, s) = 9 := HN.out (by rw [g1])
          have HE := Lib.hid ((HEB.out (by rw [hE]; decide)).trans (by rw [hE]))
          clear g1 g2 HN HV HEB HEO hE
          go_wp2_with fail
          refine (HFN.out _ HI3.out).mono ?_
          rintro e w4 ⟨rfl, hb4⟩
          have HT4 := Lib.hid (HT3.out.below hb4)
          obtain ⟨r0, r1, f0, f1⟩ := obj_cells HT4.out.2.2.2
          clear hb4 c0 c1 b0 b1 b2 b3 b4
          go_wp2
          refine bodyPost_ret (results_cell_row rfl _ _ (w.heap.size + 2) _ _ _ _ rfl (obj_set2 HT4.out.2.2.2 _ _) Tryd.underlying47 rfl (by kernel_rfl)) rfl ?_
          exact ⟨by rw [← HR.out, HD.out, HE.out], below_set2 HT4.out.1 (by omega) _ _⟩
        · rw [g2, Nat.zero_add] at HFN
          have hE : fldE sl last (n, s) = spvS (spAt sl k2) s := by rw [HV.out (by rw [g1]), g1]
          rw [hE] at HEB HEO
          have hk3 : k2 < len := by have := HSL.out; omega
          have HK2 := Lib.hid hk2
          clear g1 g2 HN HV hE hk2
          go_wp2_with fail
          refine (HFN.out _ HI3.out).mono ?_
          rintro e w4 ⟨rfl, hb4⟩
          have HT4 := Lib.hid (HT3.out.below hb4)
          have HB4 := Lib.hid (hbt HB.out hb4)
          obtain ⟨a2, x1, x2, x3, x4, x5, rfl, hx5, d0, d1, d2, d3, d4⟩ := (HI3.out.below hb4).at_ HK2.out
          rw [hx5] at HEB HEO
          have HZZ := Lib.hid (fun W => HSK.out x1 x2 x3 x4 x5 W)
          generalize spvS (x1, x2, x3, x4, x5) s = z2 at *
          have e0 := (hb4.cell (block_lt_of_cell c0)).trans c0
          have e1 := (hb4.cell (block_lt_of_cell c1)).trans c1
          clear hb4 c0 c1 b0 b1 b2 b3 b4 hx5
          go_wp2_with fail
          refine wp_region_noPanic ?_
          refine wp_region_held_drew (S := (fun u => Below w4.heap.size w4 u)) (by kernel_rfl) ((Below.refl _ _).drew) (fun hS => ?_)
          refine gv 0 (v := ?_) (fun u hu => ?_) hS ?_
          rotate_left
          · ((have hT := HT4.out.below hu; obtain ⟨b0, b1, b2⟩ := obj_cells3 hT.2.1; obtain ⟨b3, b4, _, _⟩ := obj_cells hT.2.2.1; have q0 := (hu.cell (block_lt_of_cell d0)).trans d0; have q1 := (hu.cell (block_lt_of_cell d1)).trans d1; have q2 := (hu.cell (block_lt_of_cell d2)).trans d2; have q3 := (hu.cell (block_lt_of_cell d3)).trans d3; have q4 := (hu.cell (block_lt_of_cell d4)).trans d4; have p0 := (hu.cell (block_lt_of_cell e0)).trans e0; have p1 := (hu.cell (block_lt_of_cell e1)).trans e1; clear hT); go_simp; try (with_reducible rfl))
          try simp only [puts]
          refine gv 1 (v := ?_) (fun u hu => ?_) hS ?_
          rotate_left
          · ((have hT := HT4.out.below hu; obtain ⟨b0, b1, b2⟩ := obj_cells3 hT.2.1; obtain ⟨b3, b4, _, _⟩ := obj_cells hT.2.2.1; have q0 := (hu.cell (block_lt_of_cell d0)).trans d0; have q1 := (hu.cell (block_lt_of_cell d1)).trans d1; have q2 := (hu.cell (block_lt_of_cell d2)).trans d2; have q3 := (hu.cell (block_lt_of_cell d3)).trans d3; have q4 := (hu.cell (block_lt_of_cell d4)).trans d4; have p0 := (hu.cell (block_lt_of_cell e0)).trans e0; have p1 := (hu.cell (block_lt_of_cell e1)).trans e1; clear hT); go_simp; try (with_reducible rfl))
          try simp only [puts]
          refine gv 2 (v := ?_) (fun u hu => ?_) hS ?_
          rotate_left
          · ((have hT := HT4.out.below hu; obtain ⟨b0, b1, b2⟩ := obj_cells3 hT.2.1; obtain ⟨b3, b4, _, _⟩ := obj_cells hT.2.2.1; have q0 := (hu.cell (block_lt_of_cell d0)).trans d0; have q1 := (hu.cell (block_lt_of_cell d1)).trans d1; have q2 := (hu.cell (block_lt_of_cell d2)).trans d2; have q3 := (hu.cell (block_lt_of_cell d3)).trans d3; have q4 := (hu.cell (block_lt_of_cell d4)).trans d4; have p0 := (hu.cell (block_lt_of_cell e0)).trans e0; have p1 := (hu.cell (block_lt_of_cell e1)).trans e1; clear hT); go_simp; try (with_reducible rfl))
          try simp only [puts]
          refine gv 3 (v := ?_) (fun u hu => ?_) hS ?_
          rotate_left
          · ((have hT := HT4.out.below hu; obtain ⟨b0, b1, b2⟩ := obj_cells3 hT.2.1; obtain ⟨b3, b4, _, _⟩ := obj_cells hT.2.2.1; have q0 := (hu.cell (block_lt_of_cell d0)).trans d0; have q1 := (hu.cell (block_lt_of_cell d1)).trans d1; have q2 := (hu.cell (block_lt_of_cell d2)).trans d2; have q3 := (hu.cell (block_lt_of_cell d3)).trans d3; have q4 := (hu.cell (block_lt_of_cell d4)).trans d4; have p0 := (hu.cell (block_lt_of_cell e0)).trans e0; have p1 := (hu.cell (block_lt_of_cell e1)).trans e1; clear hT); go_simp; try (with_reducible rfl))
          try simp only [puts]
          refine gv 4 (v := ?_) (fun u hu => ?_) hS ?_
          rotate_left
          · ((have hT := HT4.out.below hu; obtain ⟨b0, b1, b2⟩ := obj_cells3 hT.2.1; obtain ⟨b3, b4, _, _⟩ := obj_cells hT.2.2.1; have q0 := (hu.cell (block_lt_of_cell d0)).trans d0; have q1 := (hu.cell (block_lt_of_cell d1)).trans d1; have q2 := (hu.cell (block_lt_of_cell d2)).trans d2; have q3 := (hu.cell (block_lt_of_cell d3)).trans d3; have q4 := (hu.cell (block_lt_of_cell d4)).trans d4; have p0 := (hu.cell (block_lt_of_cell e0)).trans e0; have p1 := (hu.cell (block_lt_of_cell e1)).trans e1; clear hT); go_simp; try (with_reducible rfl))
          try simp only [puts]
          refine gv 5 (v := ?_) (fun u hu => ?_) hS ?_
          rotate_left
          · ((have hT := HT4.out.below hu; obtain ⟨b0, b1, b2⟩ := obj_cells3 hT.2.1; obtain ⟨b3, b4, _, _⟩ := obj_cells hT.2.2.1; have q0 := (hu.cell (block_lt_of_cell d0)).trans d0; have q1 := (hu.cell (block_lt_of_cell d1)).trans d1; have q2 := (hu.cell (block_lt_of_cell d2)).trans d2; have q3 := (hu.cell (block_lt_of_cell d3)).trans d3; have q4 := (hu.cell (block_lt_of_cell d4)).trans d4; have p0 := (hu.cell (block_lt_of_cell e0)).trans e0; have p1 := (hu.cell (block_lt_of_cell e1)).trans e1; clear hT); go_simp; try (with_reducible rfl))
          try simp only [puts]
          refine gv 6 (v := ?_) (fun u hu => ?_) hS ?_
          rotate_left
          · ((have hT := HT4.out.below hu; obtain ⟨b0, b1, b2⟩ := obj_cells3 hT.2.1; obtain ⟨b3, b4, _, _⟩ := obj_cells hT.2.2.1; have q0 := (hu.cell (block_lt_of_cell d0)).trans d0; have q1 := (hu.cell (block_lt_of_cell d1)).trans d1; have q2 := (hu.cell (block_lt_of_cell d2)).trans d2; have q3 := (hu.cell (block_lt_of_cell d3)).trans d3; have q4 := (hu.cell (block_lt_of_cell d4)).trans d4; have p0 := (hu.cell (block_lt_of_cell e0)).trans e0; have p1 := (hu.cell (block_lt_of_cell e1)).trans e1; clear hT); go_simp; try (with_reducible rfl))
          try simp only [puts]
          refine gv 7 (v := ?_) (fun u hu => ?_) hS ?_
          rotate_left
          · ((have hT := HT4.out.below hu; obtain ⟨b0, b1, b2⟩ := obj_cells3 hT.2.1; obtain ⟨b3, b4, _, _⟩ := obj_cells hT.2.2.1; have q0 := (hu.cell (block_lt_of_cell d0)).trans d0; have q1 := (hu.cell (block_lt_of_cell d1)).trans d1; have q2 := (hu.cell (block_lt_of_cell d2)).trans d2; have q3 := (hu.cell (block_lt_of_cell d3)).trans d3; have q4 := (hu.cell (block_lt_of_cell d4)).trans d4; have p0 := (hu.cell (block_lt_of_cell e0)).trans e0; have p1 := (hu.cell (block_lt_of_cell e1)).trans e1; clear hT); go_simp; try (with_reducible rfl))
          try simp only [puts]
          refine gv 8 (v := ?_) (fun u hu => ?_) hS ?_
          rotate_left
          · ((have hT := HT4.out.below hu; obtain ⟨b0, b1, b2⟩ := obj_cells3 hT.2.1; obtain ⟨b3, b4, _, _⟩ := obj_cells hT.2.2.1; have q0 := (hu.cell (block_lt_of_cell d0)).trans d0; have q1 := (hu.cell (block_lt_of_cell d1)).trans d1; have q2 := (hu.cell (block_lt_of_cell d2)).trans d2; have q3 := (hu.cell (block_lt_of_cell d3)).trans d3; have q4 := (hu.cell (block_lt_of_cell d4)).trans d4; have p0 := (hu.cell (block_lt_of_cell e0)).trans e0; have p1 := (hu.cell (block_lt_of_cell e1)).trans e1; clear hT); go_simp; try (with_reducible rfl))
          try simp only [puts]
          refine gv 9 (v := ?_) (fun u hu => ?_) hS ?_
          rotate_left
          · ((have hT := HT4.out.below hu; obtain ⟨b0, b1, b2⟩ := obj_cells3 hT.2.1; obtain ⟨b3, b4, _, _⟩ := obj_cells hT.2.2.1; have q0 := (hu.cell (block_lt_of_cell d0)).trans d0; have q1 := (hu.cell (block_lt_of_cell d1)).trans d1; have q2 := (hu.cell (block_lt_of_cell d2)).trans d2; have q3 := (hu.cell (block_lt_of_cell d3)).trans d3; have q4 := (hu.cell (block_lt_of_cell d4)).trans d4; have p0 := (hu.cell (block_lt_of_cell e0)).trans e0; have p1 := (hu.cell (block_lt_of_cell e1)).trans e1; clear hT); go_simp; try (with_reducible rfl))
          try simp only [puts]
          refine gv 10 (v := ?_) (fun u hu => ?_) hS ?_
          rotate_left
          · ((have hT := HT4.out.below hu; obtain ⟨b0, b1, b2⟩ := obj_cells3 hT.2.1; obtain ⟨b3, b4, _, _⟩ := obj_cells hT.2.2.1; have q0 := (hu.cell (block_lt_of_cell d0)).trans d0; have q1 := (hu.cell (block_lt_of_cell d1)).trans d1; have q2 := (hu.cell (block_lt_of_cell d2)).trans d2; have q3 := (hu.cell (block_lt_of_cell d3)).trans d3; have q4 := (hu.cell (block_lt_of_cell d4)).trans d4; have p0 := (hu.cell (block_lt_of_cell e0)).trans e0; have p1 := (hu.cell (block_lt_of_cell e1)).trans e1; clear hT); go_simp; try (with_reducible rfl))
          try simp only [puts]
          refine only_call (i := 11) 35 #[.agg #[.int .i64 x1, .int .i64 x2, .int .i64 x3, .int .i64 x4, .int .i64 x5], .string s] rfl (by kernel_rfl) (by rfl) ((HZZ.out _).mono fun e w' he => ⟨he.1, hbt hS he.2⟩) ?_ ?_
          · (go_simp; try (with_reducible rfl))
          clear hS
          intro w11 hS
          try simp only [puts]
          refine gv 12 (v := ?_) (fun u hu => ?_) hS ?_
          rotate_left
          · ((have hT := HT4.out.below hu; obtain ⟨b0, b1, b2⟩ := obj_cells3 hT.2.1; obtain ⟨b3, b4, _, _⟩ := obj_cells hT.2.2.1; have q0 := (hu.cell (block_lt_of_cell d0)).trans d0; have q1 := (hu.cell (block_lt_of_cell d1)).trans d1; have q2 := (hu.cell (block_lt_of_cell d2)).trans d2; have q3 := (hu.cell (block_lt_of_cell d3)).trans d3; have q4 := (hu.cell (block_lt_of_cell d4)).trans d4; have p0 := (hu.cell (block_lt_of_cell e0)).trans e0; have p1 := (hu.cell (block_lt_of_cell e1)).trans e1; clear hT); go_simp; try (with_reducible rfl))
          try simp only [puts]
          refine wpAnyH_done (by kernel_rfl) (NoPanic.normal ?_) _
          have HT5 := Lib.hid (HT4.out.below hS)
          have HB5 := Lib.hid (hbt HB4.out hS)
          clear hS d0 d1 d2 d3 d4 e0 e1
          by_cases hz2 : z2 = 0
          · subst hz2
            have HE := Lib.hid (HEO.out rfl)
            clear HEB HEO
            go_wp2
            go_roundw
            case rel => exact ⟨k + 1, n, by omega, by go_num, rfl, by rw [← HR.out, HD.out, HE.out], HB5.out⟩
            case measure => simp [intOf]; omega
          · have tz : (z2 != 0) = true := by simpa using hz2
            have HE := Lib.hid (HEB.out hz2)
            clear HEB HEO hz2
            obtain ⟨r0, r1, f0, f1⟩ := obj_cells HT5.out.2.2.2
            go_wp2
            refine bodyPost_ret (results_cell_row rfl _ _ (w.heap.size + 2) _ _ _ _ rfl (obj_set2 HT5.out.2.2.2 _ _) Tryd.underlying47 rfl (by kernel_rfl)) rfl ?_
            exact ⟨by rw [← HR.out, HD.out, HE.out], below_set2 HT5.out.1 (by omega) _ _⟩
    · have HE := Lib.hid (items_end (l := l) (k := k) (by have := HLEN.out; omega))
      obtain ⟨r0, r1, f0, f1⟩ := obj_cells HT3.out.2.2.2
      go_wp2
      refine bodyPost_ret (results_cell_row rfl _ _ (w.heap.size + 2) _ _ _ _ rfl (obj_set2 HT3.out.2.2.2 _ _) Tryd.underlying47 rfl (by kernel_rfl)) rfl ?_
      exact ⟨by rw [← HR.out, HE.out]; rfl, below_set2 HT3.out.1 (by omega) _ _⟩
theorem mrcheck_any (st v : Int) (A : Option Addr) (ca : Nat) (sl : List Sp) (m : ByteArray) (B : Option Addr) (cb : Nat) (l : List Item) (w : World) (hI : Spl w A sl) (hB : Tlvs w B l) (hn : sl.length ≤ 1000) (hl : l.length ≤ 1000) (hs : ∀ x ∈ l, x.2.size ≤ maxLen) (hm : m.size ≤ maxLen) :
    Calls Tryd.prog 21 #[.agg #[.int .i64 st, .int .i64 v, .slice A sl.length ca], .agg #[.string m, .slice B l.length cb]] w fun e w' => e = .returned (.agg #[.int .i64 (msgN st v sl m l).1, .int .i64 (msgN st v sl m l).2]) ∧ Below w.heap.size w w' := by
  by_cases h : (schN st v sl).1 = 0
  · cases h2 : mtiB m.data.toList
    · rw [msgN_mti h (mtiV_none h2)]; exact mrchk_none st v A ca sl m B _ cb w hI hn hm h h2
    · obtain ⟨a, b, c, d, rfl, ha, hb, hc, hd⟩ := mti_of h2
      have hlt : a.toNat < 256 := a.toNat_lt
      by_cases h3 : (a.toNat : Int) - 48 = v
      · rw [msgN_list h (by rw [mtiV_T4 h2]; simpa using h3)]
        exact mrchk_list st v A ca sl _ a.toNat B cb l w hI hB hn hl hs hm h h2 (ix_T4_0 a b c d) hlt h3
      · rw [msgN_mti h (by rw [mtiV_T4 h2]; simpa using h3)]
        exact mrchk_version st v A ca sl _ _ a.toNat B _ cb w hI hn hm h h2 (ix_T4_0 a b c d) hlt rfl h3
  · rw [msgN_arg h]; exact mrchk_arg st v A ca sl m B _ cb w hI hn h

end Go.Proofs.YtnbllngljgmebaaDoor
