/-
  Messages, over lists of values alone: what is wrong with one, which value a field has, what it is with and without a field. (Plain functions.)
-/
import Derived.Test.YthheflgfbdcnlaaDoorPackTlv
import Derived.Test.YthheflgfbdcnlaaDoorPackSpc
import Derived.Test.YthheflgfbdcnlaaDoorPackSch
import Derived.Test.YthheflgfbdcnlaaDoorPackMti
namespace Go.Proofs.YthheflgfbdcnlaaDoor

theorem drop_item {l : List Item} {k : Nat} (h : k < l.length) : l.drop k = itemAt l k :: l.drop (k + 1) := by rw [itemAt_get h]; exact List.drop_eq_getElem_cons h
theorem items_end {l : List Item} {k : Nat} (h : l.length ≤ k) : l.drop k = [] := List.drop_eq_nil_of_le h
theorem items_all {l : List Item} {k : Nat} (h : l.length ≤ k) : l.take k = l := List.take_of_length_le h
theorem items_ext {l m : List Item} (hlen : l.length = m.length) (h : ∀ j, j < l.length → itemAt l j = itemAt m j) : l = m := by
  refine List.ext_getElem hlen fun j h1 h2 => ?_
  have := h j h1
  rwa [itemAt_get h1, itemAt_get h2] at this
theorem tags_snoc (l : List Item) (x : Item) : tagsOf (l ++ [x]) = tagsOf l ++ [x.1] := by simp [tagsOf]
theorem tags_length (l : List Item) : (tagsOf l).length = l.length := by simp [tagsOf]
theorem of_tags {l : List Item} {k : Nat} (hk : k < l.length) : ofH (tagsOf (l.take (k + 1))) = ofH (tagsOf (l.take k)) ||| aH (itemAt l k).1 ∧ ofL (tagsOf (l.take (k + 1))) = ofL (tagsOf (l.take k)) ||| aL (itemAt l k).1 := by
  rw [take_succ_item hk, tags_snoc]
  exact of_snoc _ _

/-- Is one of the texts too long to be played? -/
def longL (l : List Item) : Bool := l.any fun x => decide (1200 < x.2.size)
theorem long_hit {x : Item} {r : List Item} (h : 1200 < x.2.size) : longL (x :: r) = true := by simp [longL, h]
theorem long_miss {x : Item} {r : List Item} (h : ¬ 1200 < x.2.size) : longL (x :: r) = longL r := by simp [longL, h]
theorem long_no {l : List Item} (h : longL l = false) : ∀ x ∈ l, x.2.size ≤ 1200 := by
  intro x hx
  simp only [longL, List.any_eq_false, decide_eq_true_eq] at h
  have := h x hx
  omega
def greatM (m : ByteArray) (l : List Item) : Bool := decide (100 < m.size) || decide (200 < l.length) || longL l
theorem great_in {m : ByteArray} {l : List Item} (h : greatM m l = false) : m.size ≤ 100 ∧ l.length ≤ 200 ∧ longL l = false := by
  simp only [greatM, Bool.or_eq_false_iff, decide_eq_false_iff_not] at h
  exact ⟨by omega, by omega, h.2⟩
/-- Texts of up to 1200 bytes. -/
def Short (l : List Item) : Prop := ∀ x ∈ l, x.2.size ≤ 1200
theorem Short.at_ {l : List Item} (h : Short l) {k : Nat} (hk : k < l.length) : (itemAt l k).2.size ≤ 1200 := by
  rw [itemAt_get hk]; exact h _ (List.getElem_mem hk)

/-- The place of a field; -1: there is none. -/
def vfI (no : Int) : Nat → List Item → Int
  | _, [] => -1
  | i, x :: r => if x.1 = no then (i : Int) else vfI no (i + 1) r
theorem vfI_hit {no : Int} {i : Nat} {x : Item} {r : List Item} (h : x.1 = no) : vfI no i (x :: r) = (i : Int) := by rw [vfI, if_pos h]
theorem vfI_miss {no : Int} {i : Nat} {x : Item} {r : List Item} (h : x.1 ≠ no) : vfI no i (x :: r) = vfI no (i + 1) r := by rw [vfI, if_neg h]
theorem findS_cons (x : Item) (r : List Item) (no : Int) : findS (x :: r) no = if x.1 = no then x.2 else findS r no := by
  unfold findS
  by_cases h : x.1 = no
  · rw [if_pos h, List.find?_cons_of_pos (by simpa using h)]
  · rw [if_neg h, List.find?_cons_of_neg (by simpa using h)]
theorem findB_cons (x : Item) (r : List Item) (no : Int) : findB (x :: r) no = (decide (x.1 = no) || findB r no) := by
  simp only [findB, List.any_cons]
  congr 1
theorem vfind_rel (no : Int) : ∀ (l : List Item) (i : Nat), (findB l no = false ∧ findS l no = ⟨#[]⟩ ∧ vfI no i l = -1) ∨ (∃ k, k < l.length ∧ vfI no i l = ((i + k : Nat) : Int) ∧ findB l no = true ∧ findS l no = (itemAt l k).2)
  | [], i => .inl ⟨rfl, rfl, rfl⟩
  | x :: r, i => by
    by_cases h : x.1 = no
    · refine .inr ⟨0, by simp, ?_, ?_, ?_⟩
      · rw [vfI_hit h]; simp
      · rw [findB_cons, decide_eq_true h]; rfl
      · rw [findS_cons, if_pos h]; rfl
    · rw [vfI_miss h, findB_cons, findS_cons, if_neg h, decide_eq_false h, Bool.false_or]
      rcases vfind_rel no r (i + 1) with h1 | ⟨k, hk, h1, h2, h3⟩
      · exact .inl h1
      · refine .inr ⟨k + 1, by simpa using hk, ?_, h2, ?_⟩
        · rw [h1]; congr 1; omega
        · rw [h3]; simp [itemAt, List.getD]

/-- Without a field. -/
def outL (no : Int) (l : List Item) : List Item := l.filter fun x => decide (x.1 ≠ no)
theorem out_snoc (no : Int) (l : List Item) (x : Item) : outL no (l ++ [x]) = outL no l ++ (if x.1 = no then [] else [x]) := by
  by_cases h : x.1 = no <;> simp [outL, h]
theorem out_length (no : Int) (l : List Item) : (outL no l).length ≤ l.length := List.length_filter_le _ _
theorem out_part (no : Int) (l : List Item) (k : Nat) : (outL no (l.take k)).length ≤ l.length := Nat.le_trans (out_length _ _) (by simp; omega)
theorem out_mem {no : Int} {l : List Item} {x : Item} (h : x ∈ outL no l) : x ∈ l ∧ x.1 ≠ no := by simpa [outL] using h
theorem Short.out {l : List Item} (h : Short l) (no : Int) : Short (outL no l) := fun x hx => h x (out_mem hx).1
theorem out_find (no : Int) (l : List Item) : findB (outL no l) no = false := by
  simp only [findB, List.any_eq_false]
  intro x hx
  simpa using (out_mem hx).2

/-- Where a field of a number belongs. -/
def plcL (no : Int) : Nat → List Item → Nat
  | i, [] => i
  | i, x :: r => if no < x.1 then i else plcL no (i + 1) r
theorem plc_hit {no : Int} {i : Nat} {x : Item} {r : List Item} (h : no < x.1) : plcL no i (x :: r) = i := by rw [plcL, if_pos h]
theorem plc_miss {no : Int} {i : Nat} {x : Item} {r : List Item} (h : ¬ no < x.1) : plcL no i (x :: r) = plcL no (i + 1) r := by rw [plcL, if_neg h]
theorem plc_in (no : Int) : ∀ (l : List Item) (i : Nat), i ≤ plcL no i l ∧ plcL no i l ≤ i + l.length
  | [], i => by simp [plcL]
  | x :: r, i => by
    by_cases h : no < x.1
    · rw [plc_hit h]; simp
    · rw [plc_miss h]
      have := plc_in no r (i + 1)
      simp only [List.length_cons]
      omega
theorem plc_le (no : Int) (l : List Item) : plcL no 0 l ≤ l.length := by have := plc_in no l 0; omega
theorem plc_shift (no : Int) : ∀ (l : List Item) (i : Nat), plcL no (i + 1) l = plcL no i l + 1
  | [], i => rfl
  | x :: r, i => by
    by_cases h : no < x.1
    · rw [plc_hit h, plc_hit h]
    · rw [plc_miss h, plc_miss h, plc_shift no r (i + 1)]
/-- With a field, put in its place. -/
def insL (x : Item) (r : List Item) : List Item := r.take (plcL x.1 0 r) ++ x :: r.drop (plcL x.1 0 r)
def withL (no : Int) (t : ByteArray) (l : List Item) : List Item := insL (no, t) (outL no l)
/-- What is still to come, as the document has it. -/
def refW (x : Item) : Bool → List Item → List Item
  | true, l => l
  | false, [] => [x]
  | false, y :: r => if x.1 < y.1 then x :: y :: r else y :: refW x false r
theorem refW_true (x : Item) (l : List Item) : refW x true l = l := by cases l <;> rfl
theorem refW_nil (x : Item) : refW x false [] = [x] := rfl
theorem refW_hit {x y : Item} {r : List Item} (h : x.1 < y.1) : refW x false (y :: r) = x :: y :: r := by rw [refW, if_pos h]
theorem refW_miss {x y : Item} {r : List Item} (h : ¬ x.1 < y.1) : refW x false (y :: r) = y :: refW x false r := by rw [refW, if_neg h]
theorem refW_ins (x : Item) : ∀ l : List Item, refW x false l = insL x l
  | [] => rfl
  | y :: r => by
    by_cases h : x.1 < y.1
    · rw [refW_hit h, insL, plc_hit h]; rfl
    · rw [refW_miss h, refW_ins x r, insL, insL, plc_miss h, plc_shift]; rfl
theorem ins_length (x : Item) (r : List Item) : (insL x r).length = r.length + 1 := by
  have := plc_le x.1 r
  simp [insL]
  omega
theorem ins_mem {x y : Item} {r : List Item} (h : y ∈ insL x r) : y = x ∨ y ∈ r := by
  simp only [insL, List.mem_append, List.mem_cons] at h
  rcases h with h | h | h
  · exact .inr (List.mem_of_mem_take h)
  · exact .inl h
  · exact .inr (List.mem_of_mem_drop h)
theorem with_short {l : List Item} {no : Int} {t : ByteArray} (h : Short l) (ht : t.size ≤ 1200) : Short (withL no t l) := fun x hx => by
  rcases ins_mem hx with rfl | hx
  · exact ht
  · exact h.out no x hx
theorem with_length (no : Int) (t : ByteArray) (l : List Item) : (withL no t l).length ≤ l.length + 1 := by
  have := out_length no l
  rw [withL, ins_length]
  omega
theorem find_app (a b : List Item) (no : Int) (h : ∀ x ∈ a, x.1 ≠ no) : findS (a ++ b) no = findS b no ∧ findB (a ++ b) no = findB b no := by
  induction a with
  | nil => exact ⟨rfl, rfl⟩
  | cons x r ih =>
    have hx := h x (by simp)
    rw [List.cons_append, findS_cons, findB_cons, if_neg hx, decide_eq_false hx, Bool.false_or]
    exact ih fun y hy => h y (by simp [hy])
theorem with_find (no : Int) (t : ByteArray) (l : List Item) : findS (withL no t l) no = t ∧ findB (withL no t l) no = true := by
  unfold withL insL
  obtain ⟨h1, h2⟩ := find_app ((outL no l).take (plcL no 0 (outL no l))) ((no, t) :: (outL no l).drop (plcL no 0 (outL no l))) no (fun x hx => (out_mem (List.mem_of_mem_take hx)).2)
  rw [h1, h2, findS_cons, findB_cons]
  simp

/-- Are two messages the same? -/
def sameM (m : ByteArray) (l : List Item) (m' : ByteArray) (l' : List Item) : Bool := decide (m = m' ∧ l = l')
theorem sameM_comm (m : ByteArray) (l : List Item) (m' : ByteArray) (l' : List Item) : sameM m' l' m l = sameM m l m' l' := by
  unfold sameM
  rw [Bool.eq_iff_iff]
  simp only [decide_eq_true_eq]
  exact ⟨fun h => ⟨h.1.symm, h.2.symm⟩, fun h => ⟨h.1.symm, h.2.symm⟩⟩
theorem sameM_refl (m : ByteArray) (l : List Item) : sameM m l m l = true := by simp [sameM]
theorem sameM_m {m m' : ByteArray} {l l' : List Item} (h : m ≠ m') : sameM m l m' l' = false := by simp [sameM, h]
theorem sameM_l {m m' : ByteArray} {l l' : List Item} (h : l ≠ l') : sameM m l m' l' = false := by simp [sameM, h]
theorem sameM_on (m : ByteArray) (l l' : List Item) : sameM m l m l' = decide (l = l') := by simp [sameM]

/-- What is wrong with one field, behind the number last. -/
def spvS (x : Sp) (s : ByteArray) : Int := spv x.1 x.2.1 x.2.2.1 x.2.2.2.1 x.2.2.2.2 s
def fldE (sl : List Sp) (last : Int) (x : Item) : Int := if x.1 ≤ last then 11 else if (fndP x.1 sl).2 = false then 9 else spvS (fndP x.1 sl).1 x.2
theorem fldE_order {sl : List Sp} {last : Int} {x : Item} (h : x.1 ≤ last) : fldE sl last x = 11 := by rw [fldE, if_pos h]
theorem fldE_none {sl : List Sp} {last : Int} {x : Item} (h : ¬ x.1 ≤ last) (h2 : (fndP x.1 sl).2 = false) : fldE sl last x = 9 := by rw [fldE, if_neg h, if_pos h2]
theorem fldE_val {sl : List Sp} {last : Int} {x : Item} (h : ¬ x.1 ≤ last) (h2 : (fndP x.1 sl).2 = true) : fldE sl last x = spvS (fndP x.1 sl).1 x.2 := by rw [fldE, if_neg h, if_neg (by simp [h2])]
/-- What is wrong with a list of fields, and with which, behind the number last. -/
def msgL (sl : List Sp) : Int → List Item → Int × Int
  | _, [] => (0, 0)
  | last, x :: r => if fldE sl last x ≠ 0 then (fldE sl last x, x.1) else msgL sl x.1 r
theorem msgL_bad {sl : List Sp} {last : Int} {x : Item} {r : List Item} (h : fldE sl last x ≠ 0) : msgL sl last (x :: r) = (fldE sl last x, x.1) := by rw [msgL, if_pos h]
theorem msgL_ok {sl : List Sp} {last : Int} {x : Item} {r : List Item} (h : fldE sl last x = 0) : msgL sl last (x :: r) = msgL sl x.1 r := by rw [msgL, if_neg (by simp [h])]
/-- Is it an MTI of that version? -/
def mtiV (m : ByteArray) (v : Int) : Bool := mtiB m.data.toList && decide (((m.data.toList.headD 0).toNat : Int) - 48 = v)
theorem mtiV_none {m : ByteArray} {v : Int} (h : mtiB m.data.toList = false) : mtiV m v = false := by simp [mtiV, h]
theorem mtiV_T4 {a b c d : UInt8} {v : Int} (h : mtiB (T4 a b c d).data.toList = true) : mtiV (T4 a b c d) v = decide ((a.toNat : Int) - 48 = v) := by
  rw [mtiV, h, Bool.true_and]
  rfl
def msgN (st v : Int) (sl : List Sp) (m : ByteArray) (l : List Item) : Int × Int := if (schN st v sl).1 ≠ 0 then (1, -1) else if mtiV m v = false then (7, 0) else msgL sl 0 l
theorem msgN_arg {st v : Int} {sl : List Sp} {m : ByteArray} {l : List Item} (h : (schN st v sl).1 ≠ 0) : msgN st v sl m l = (1, -1) := by rw [msgN, if_pos h]
theorem msgN_mti {st v : Int} {sl : List Sp} {m : ByteArray} {l : List Item} (h : (schN st v sl).1 = 0) (h2 : mtiV m v = false) : msgN st v sl m l = (7, 0) := by rw [msgN, if_neg (by simp [h]), if_pos h2]
theorem msgN_list {st v : Int} {sl : List Sp} {m : ByteArray} {l : List Item} (h : (schN st v sl).1 = 0) (h2 : mtiV m v = true) : msgN st v sl m l = msgL sl 0 l := by rw [msgN, if_neg (by simp [h]), if_neg (by simp [h2])]

/-- A value that the schema lets be. -/
def okV (sl : List Sp) (x : Item) : Prop := (fndP x.1 sl).2 = true ∧ spvS (fndP x.1 sl).1 x.2 = 0
theorem fldE_zero {sl : List Sp} {last : Int} {x : Item} : fldE sl last x = 0 ↔ last < x.1 ∧ okV sl x := by
  by_cases h : x.1 ≤ last
  · rw [fldE_order h]
    constructor
    · intro e; exact absurd e (by decide)
    · intro e; omega
  · by_cases h2 : (fndP x.1 sl).2 = true
    · rw [fldE_val h h2]
      exact ⟨fun e => ⟨by omega, h2, e⟩, fun e => e.2.2⟩
    · have h3 : (fndP x.1 sl).2 = false := by simpa using h2
      rw [fldE_none h h3]
      constructor
      · intro e; exact absurd e (by decide)
      · intro e; exact absurd e.2.1 h2
/-- Right values, by rising numbers. -/
def Fits (sl : List Sp) : Int → List Item → Prop
  | _, [] => True
  | last, x :: r => last < x.1 ∧ okV sl x ∧ Fits sl x.1 r
theorem msgL_zero (sl : List Sp) : ∀ (l : List Item) (last : Int), msgL sl last l = (0, 0) ↔ Fits sl last l
  | [], last => by simp [msgL, Fits]
  | x :: r, last => by
    by_cases h : fldE sl last x = 0
    · rw [msgL_ok h, msgL_zero sl r x.1]
      have := fldE_zero.1 h
      simp only [Fits]
      exact ⟨fun e => ⟨this.1, this.2, e⟩, fun e => e.2.2⟩
    · rw [msgL_bad h]
      simp only [Fits]
      constructor
      · intro e; exact absurd (congrArg Prod.fst e) h
      · intro e; exact absurd (fldE_zero.2 ⟨e.1, e.2.1⟩) h
theorem Fits.weak {sl : List Sp} : ∀ {l : List Item} {a b : Int}, Fits sl a l → b ≤ a → Fits sl b l
  | [], _, _, _, _ => trivial
  | x :: r, _, _, h, hb => ⟨by have := h.1; omega, h.2⟩
theorem Fits.filter {sl : List Sp} (p : Item → Bool) : ∀ {l : List Item} {a : Int}, Fits sl a l → Fits sl a (l.filter p)
  | [], _, _ => trivial
  | x :: r, a, h => by
    have ih := Fits.filter p h.2.2
    by_cases hp : p x = true
    · rw [List.filter_cons_of_pos hp]
      exact ⟨h.1, h.2.1, ih⟩
    · rw [List.filter_cons_of_neg hp]
      exact ih.weak (by have := h.1; omega)
theorem Fits.ins {sl : List Sp} {x : Item} (hx : okV sl x) : ∀ {l : List Item} {a : Int}, Fits sl a l → a < x.1 → (∀ y ∈ l, y.1 ≠ x.1) → Fits sl a (refW x false l)
  | [], a, _, ha, _ => ⟨ha, hx, trivial⟩
  | y :: r, a, h, ha, hn => by
    by_cases hlt : x.1 < y.1
    · rw [refW_hit hlt]
      exact ⟨ha, hx, hlt, h.2⟩
    · rw [refW_miss hlt]
      have := hn y (by simp)
      exact ⟨h.1, h.2.1, Fits.ins hx h.2.2 (by omega) fun z hz => hn z (by simp [hz])⟩
theorem Fits.of_ins {sl : List Sp} {x : Item} : ∀ {l : List Item} {a : Int}, Fits sl a (refW x false l) → a < x.1 ∧ okV sl x
  | [], a, h => ⟨h.1, h.2.1⟩
  | y :: r, a, h => by
    by_cases hlt : x.1 < y.1
    · rw [refW_hit hlt] at h
      exact ⟨h.1, h.2.1⟩
    · rw [refW_miss hlt] at h
      obtain ⟨h1, h2⟩ := Fits.of_ins h.2.2
      exact ⟨by have := h.1; omega, h2⟩
theorem valid_in {st v : Int} {sl : List Sp} {m : ByteArray} {l : List Item} (h : msgN st v sl m l = (0, 0)) : (schN st v sl).1 = 0 ∧ mtiV m v = true ∧ Fits sl 0 l := by
  by_cases h1 : (schN st v sl).1 = 0
  · by_cases h2 : mtiV m v = true
    · rw [msgN_list h1 h2] at h
      exact ⟨h1, h2, (msgL_zero sl l 0).1 h⟩
    · rw [msgN_mti h1 (by simpa using h2)] at h
      exact absurd (congrArg Prod.fst h) (by decide)
  · rw [msgN_arg h1] at h
    exact absurd (congrArg Prod.fst h) (by decide)
theorem valid_out {st v : Int} {sl : List Sp} {m : ByteArray} {l : List Item} (h : msgN st v sl m l = (0, 0)) (no : Int) : msgN st v sl m (outL no l) = (0, 0) := by
  obtain ⟨h1, h2, h3⟩ := valid_in h
  rw [msgN_list h1 h2, msgL_zero]
  exact h3.filter _
theorem valid_with {st v : Int} {sl : List Sp} {m : ByteArray} {l : List Item} (h : msgN st v sl m l = (0, 0)) (no : Int) (t : ByteArray) : msgN st v sl m (withL no t l) = (0, 0) ↔ msgN st v sl m [(no, t)] = (0, 0) := by
  obtain ⟨h1, h2, h3⟩ := valid_in h
  rw [msgN_list h1 h2, msgN_list h1 h2, msgL_zero, msgL_zero, withL, ← refW_ins]
  constructor
  · intro e
    obtain ⟨e1, e2⟩ := Fits.of_ins e
    exact ⟨e1, e2, trivial⟩
  · intro e
    exact Fits.ins e.2.1 (h3.filter _) e.1 fun y hy => (out_mem hy).2

end Go.Proofs.YthheflgfbdcnlaaDoor
