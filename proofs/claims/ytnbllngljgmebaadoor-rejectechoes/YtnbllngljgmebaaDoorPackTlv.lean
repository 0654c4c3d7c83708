/-
  Texts of one family, laid together: TlvMath, TlvOf, TlvStep, TlvSeen, TlvGet, TlvFind, TlvRefGet.
-/
import Derived.Test.YtnbllngljgmebaaDoorPackTag
import Derived.Test.YtnbllngljgmebaaDoorPackBer
import Derived.Test.YtnbllngljgmebaaDoorPackBase
import Derived.Deep.AppendLies
import Derived.Laws.OwnMore
import Derived.Maps.Own
import Derived.Maps.OwnSet
import Derived.Maps.Views
import Derived.BigQuiet
import Derived.Deep.RegionWith

/-
  Lists of tagged values: what is wrong with one, its bytes, and which list stands in bytes. (Plain functions.)
-/
namespace Go.Proofs.YtnbllngljgmebaaDoor

abbrev Item := Int × ByteArray
def noItem : Item := (0, ⟨#[]⟩)
def itemAt (l : List Item) (i : Nat) : Item := l.getD i noItem
def tagsOf (l : List Item) : List Int := l.map Prod.fst
/-- What is wrong with one of a list, behind those tags. -/
def bad1 (ts : List Int) (x : Item) : Nat := if tagB x.1 = false then 13 else if 65535 < x.2.size then 5 else if x.1 ∈ ts then 10 else 0
def badAt (l : List Item) (i : Nat) : Nat := bad1 (tagsOf (l.take i)) (itemAt l i)
/-- What is wrong with a list, and of which one. -/
def chk (l : List Item) : Nat × Nat :=
  match (List.range l.length).find? (fun i => badAt l i != 0) with
  | some i => (badAt l i, i)
  | none => (0, 0)
def putI (x : Item) : List UInt8 := tputL x.1.toNat ++ berL x.2.size ++ x.2.data.toList
def tlvL (l : List Item) : List UInt8 := l.flatMap putI

theorem itemAt_get {l : List Item} {i : Nat} (h : i < l.length) : itemAt l i = l[i] := by simp [itemAt, List.getD, h]
theorem itemAt_take {l : List Item} {i k : Nat} (h : i < k) : itemAt (l.take k) i = itemAt l i := by simp [itemAt, List.getD, h]
theorem take_succ_item {l : List Item} {i : Nat} (h : i < l.length) : l.take (i + 1) = l.take i ++ [itemAt l i] := by rw [itemAt_get h, List.take_succ_eq_append_getElem h]
theorem bad1_tag {ts : List Int} {x : Item} (h : tagB x.1 = false) : bad1 ts x = 13 := by unfold bad1; rw [if_pos h]
theorem bad1_long {ts : List Int} {x : Item} (h : tagB x.1 = true) (h2 : 65535 < x.2.size) : bad1 ts x = 5 := by unfold bad1; rw [if_neg (by simp [h]), if_pos h2]
theorem bad1_twice {ts : List Int} {x : Item} (h : tagB x.1 = true) (h2 : x.2.size ≤ 65535) (h3 : x.1 ∈ ts) : bad1 ts x = 10 := by unfold bad1; rw [if_neg (by simp [h]), if_neg (by omega), if_pos h3]
theorem bad1_ok {ts : List Int} {x : Item} (h : tagB x.1 = true) (h2 : x.2.size ≤ 65535) (h3 : x.1 ∉ ts) : bad1 ts x = 0 := by unfold bad1; rw [if_neg (by simp [h]), if_neg (by omega), if_neg h3]
theorem bad1_zero {ts : List Int} {x : Item} (h : bad1 ts x = 0) : tagB x.1 = true ∧ x.2.size ≤ 65535 ∧ x.1 ∉ ts := by
  by_cases h1 : tagB x.1 = true
  · by_cases h2 : 65535 < x.2.size
    · rw [bad1_long h1 h2] at h; exact absurd h (by decide)
    · by_cases h3 : x.1 ∈ ts
      · rw [bad1_twice h1 (by omega) h3] at h; exact absurd h (by decide)
      · exact ⟨h1, by omega, h3⟩
  · rw [bad1_tag (by simpa using h1)] at h; exact absurd h (by decide)
theorem bad1_lt (ts : List Int) (x : Item) : bad1 ts x ≤ 13 := by
  unfold bad1
  split
  · omega
  · split
    · omega
    · split <;> omega

def Good (l : List Item) : Prop := ∀ j, j < l.length → badAt l j = 0
theorem chk_bad {l : List Item} {i : Nat} (hi : i < l.length) (h : ∀ j, j < i → badAt l j = 0) (hb : badAt l i ≠ 0) : chk l = (badAt l i, i) := by
  have e : (List.range l.length).find? (fun i => badAt l i != 0) = some i := by
    rw [List.find?_range_eq_some]
    exact ⟨by simpa using hb, by simpa using hi, fun j hj => by simp [h j hj]⟩
  unfold chk
  rw [e]
theorem chk_ok {l : List Item} (h : Good l) : chk l = (0, 0) := by
  have e : (List.range l.length).find? (fun i => badAt l i != 0) = none := by
    rw [List.find?_eq_none]
    intro j hj
    simp [h j (by simpa using hj)]
  unfold chk
  rw [e]
theorem chk_zero {l : List Item} (h : (chk l).1 = 0) : Good l := by
  intro j hj
  unfold chk at h
  split at h
  · rename_i i he
    rw [List.find?_range_eq_some] at he
    simp at he
    exact absurd h he.1
  · rename_i he
    rw [List.find?_eq_none] at he
    simpa using he j (by simpa using hj)
theorem chk_cases (l : List Item) : (chk l = (0, 0) ∧ Good l) ∨ ((chk l).1 ≠ 0) := by
  by_cases h : (chk l).1 = 0
  · exact Or.inl ⟨chk_ok (chk_zero h), chk_zero h⟩
  · exact Or.inr h
theorem chk_le (l : List Item) : (chk l).1 ≤ 13 := by
  unfold chk
  split
  · exact bad1_lt _ _
  · exact Nat.zero_le _

theorem good_take {l : List Item} (h : Good l) (k : Nat) : Good (l.take k) := by
  intro j hj
  have hj' : j < k ∧ j < l.length := by simp at hj; omega
  have := h j hj'.2
  unfold badAt at *
  rwa [itemAt_take hj'.1, List.take_take, Nat.min_eq_left (by omega)]
theorem good_snoc {l : List Item} {x : Item} (h : Good l) (hx : bad1 (tagsOf l) x = 0) : Good (l ++ [x]) := by
  intro j hj
  by_cases hlt : j < l.length
  · have := h j hlt
    unfold badAt at *
    rw [List.take_append_of_le_length (by omega)]
    rwa [show itemAt (l ++ [x]) j = itemAt l j by simp [itemAt, List.getD, List.getElem?_append_left hlt]]
  · obtain rfl : j = l.length := by simp at hj; omega
    unfold badAt
    rw [show itemAt (l ++ [x]) l.length = x by simp [itemAt, List.getD]]
    simpa using hx

theorem tlvL_snoc (l : List Item) (x : Item) : tlvL (l ++ [x]) = tlvL l ++ putI x := by simp [tlvL]
theorem tlvL_step {l : List Item} {i : Nat} (h : i < l.length) : tlvL (l.take (i + 1)) = tlvL (l.take i) ++ putI (itemAt l i) := by rw [take_succ_item h, tlvL_snoc]
theorem putI_len (x : Item) (h : x.2.size ≤ 65535) : 2 ≤ (putI x).length ∧ (putI x).length ≤ 65540 := by
  have h1 := tputL_length_le x.1.toNat
  have h2 := berL_length x.2.size
  have h3 := berSz_le x.2.size
  have h4 : x.2.data.toList.length = x.2.size := by simp
  unfold putI
  simp only [List.length_append]
  omega
theorem tlvL_len : ∀ (l : List Item), (∀ x ∈ l, x.2.size ≤ 65535) → (tlvL l).length ≤ 65540 * l.length
  | [], _ => by simp [tlvL]
  | x :: r, h => by
    have h1 := tlvL_len r (fun y hy => h y (List.mem_cons_of_mem _ hy))
    have h2 := putI_len x (h x (List.mem_cons_self ..))
    have e : tlvL (x :: r) = putI x ++ tlvL r := by simp [tlvL]
    rw [e, List.length_append, List.length_cons]
    omega
theorem good_small {l : List Item} (h : Good l) : ∀ x ∈ l, x.2.size ≤ 65535 := by
  intro x hx
  obtain ⟨i, hi, rfl⟩ := List.getElem_of_mem hx
  have := (bad1_zero (h i hi)).2.1
  rwa [itemAt_get hi] at this

/-- What stands at a place: an error and its place; or the place behind it, the tag, where its value begins, how long that is. -/
def stepG (l : List UInt8) (p : Nat) : Nat × Nat × Nat × Nat × Nat :=
  if (tget l p).2.2 ≠ 0 then ((tget l p).2.2, p, 0, 0, 0)
  else if (berGet l (tget l p).2.1).2.2 ≠ 0 then ((berGet l (tget l p).2.1).2.2, (tget l p).2.1, 0, 0, 0)
  else if l.length < (berGet l (tget l p).2.1).2.1 + (berGet l (tget l p).2.1).1 then (2, l.length, 0, 0, 0)
  else (0, (berGet l (tget l p).2.1).2.1 + (berGet l (tget l p).2.1).1, (tget l p).1, (berGet l (tget l p).2.1).2.1, (berGet l (tget l p).2.1).1)
/-- An error, its place, the list. -/
def tlvF (s : ByteArray) : Nat → Nat → List Item → Nat × Nat × List Item
  | 0, _, l => (0, 0, l)
  | k + 1, p, l =>
    if s.size ≤ p then (0, 0, l)
    else if (stepG s.data.toList p).1 ≠ 0 then ((stepG s.data.toList p).1, (stepG s.data.toList p).2.1, [])
    else if (((stepG s.data.toList p).2.2.1 : Nat) : Int) ∈ tagsOf l then (10, p, [])
    else tlvF s k (stepG s.data.toList p).2.1 (l ++ [((((stepG s.data.toList p).2.2.1 : Nat) : Int), s.extract (stepG s.data.toList p).2.2.2.1 ((stepG s.data.toList p).2.2.2.1 + (stepG s.data.toList p).2.2.2.2))])
def tlvN (s : ByteArray) : Nat × Nat × List Item := tlvF s (s.size + 1) 0 []

theorem stepG_tag {l : List UInt8} {p : Nat} (h : (tget l p).2.2 ≠ 0) : stepG l p = ((tget l p).2.2, p, 0, 0, 0) := by unfold stepG; rw [if_pos h]
theorem stepG_len {l : List UInt8} {p : Nat} (h : (tget l p).2.2 = 0) (h2 : (berGet l (tget l p).2.1).2.2 ≠ 0) : stepG l p = ((berGet l (tget l p).2.1).2.2, (tget l p).2.1, 0, 0, 0) := by
  unfold stepG; rw [if_neg (by simp [h]), if_pos h2]
theorem stepG_cut {l : List UInt8} {p : Nat} (h : (tget l p).2.2 = 0) (h2 : (berGet l (tget l p).2.1).2.2 = 0) (h3 : l.length < (berGet l (tget l p).2.1).2.1 + (berGet l (tget l p).2.1).1) : stepG l p = (2, l.length, 0, 0, 0) := by
  unfold stepG; rw [if_neg (by simp [h]), if_neg (by simp [h2]), if_pos h3]
theorem stepG_yes {l : List UInt8} {p : Nat} (h : (tget l p).2.2 = 0) (h2 : (berGet l (tget l p).2.1).2.2 = 0) (h3 : (berGet l (tget l p).2.1).2.1 + (berGet l (tget l p).2.1).1 ≤ l.length) :
    stepG l p = (0, (berGet l (tget l p).2.1).2.1 + (berGet l (tget l p).2.1).1, (tget l p).1, (berGet l (tget l p).2.1).2.1, (berGet l (tget l p).2.1).1) := by
  unfold stepG; rw [if_neg (by simp [h]), if_neg (by simp [h2]), if_neg (by omega)]

/-- What stands at a place as what stands at the front of the rest. -/
theorem tread_shift (p a : Nat) (o : Option Nat) (h : (tread p a o).2.2 = 0) : (tread 0 a o).2.2 = 0 ∧ (tread p a o).1 = (tread 0 a o).1 ∧ (tread p a o).2.1 = p + (tread 0 a o).2.1 := by
  rcases tfirst_cases a with ⟨h0, _⟩ | ⟨h1, _⟩ | ⟨h2, _⟩
  · rw [tread_no o h0] at h; exact absurd h (by decide)
  · rw [tread_one o h1, tread_one o h1]; exact ⟨rfl, rfl, by simp⟩
  · cases o with
    | none => rw [tread_cut h2] at h; exact absurd h (by decide)
    | some b =>
      by_cases hb : tends b
      · rw [tread_two h2 hb, tread_two h2 hb]; exact ⟨rfl, rfl, by simp⟩
      · rw [tread_bad h2 hb] at h; exact absurd h (by decide)
theorem tget_drop (l : List UInt8) (p : Nat) (h : (tget l p).2.2 = 0) : (tget (l.drop p) 0).2.2 = 0 ∧ (tget l p).1 = (tget (l.drop p) 0).1 ∧ (tget l p).2.1 = p + (tget (l.drop p) 0).2.1 := by
  by_cases hp : p < l.length
  · have e1 : l[p]? = some l[p] := List.getElem?_eq_getElem hp
    have e2 : (l.drop p)[0]? = some l[p] := by simp [hp]
    have e3 : (l.drop p)[0 + 1]? = l[p + 1]? := by simp
    rw [tget_at l[p] e1] at h ⊢
    rw [tget_at l[p] e2, e3]
    exact tread_shift _ _ _ h
  · rw [tget_cut (by omega)] at h; exact absurd h (by decide)
/-- A tag that is got at a place: it is one, and its bytes stand there. -/
theorem tget_put {l : List UInt8} {p : Nat} (h : (tget l p).2.2 = 0) : (tone (tget l p).1 ∨ ttwo (tget l p).1) ∧ p < (tget l p).2.1 ∧ (tget l p).2.1 ≤ l.length ∧ (tget l p).2.1 = p + (tputL (tget l p).1).length ∧ tputL (tget l p).1 = (l.drop p).take (tputL (tget l p).1).length := by
  obtain ⟨h1, h2, h3⟩ := tget_drop l p h
  have hp : p < l.length := by
    by_cases g : p < l.length
    · exact g
    · rw [tget_cut (by omega)] at h; exact absurd h (by decide)
  obtain ⟨g1, g2, g3⟩ := tget_one h1
  have hl := tputL_length_le (tget (l.drop p) 0).1
  have e := congrArg List.length g3
  simp only [List.length_take, List.length_drop] at e g2
  rw [h2, h3]
  have e' : (tputL (tget (l.drop p) 0).1).length = (tget (l.drop p) 0).2.1 := by omega
  exact ⟨g1, by omega, by omega, by omega, by rw [e']; exact g3⟩
/-- What stands at a place and is whole. -/
theorem stepG_ok {l : List UInt8} {p : Nat} (h : (stepG l p).1 = 0) : (tget l p).2.2 = 0 ∧ (berGet l (tget l p).2.1).2.2 = 0 ∧ (berGet l (tget l p).2.1).2.1 + (berGet l (tget l p).2.1).1 ≤ l.length := by
  by_cases h1 : (tget l p).2.2 = 0
  · by_cases h2 : (berGet l (tget l p).2.1).2.2 = 0
    · by_cases h3 : l.length < (berGet l (tget l p).2.1).2.1 + (berGet l (tget l p).2.1).1
      · rw [stepG_cut h1 h2 h3] at h; exact absurd h (by simp)
      · exact ⟨h1, h2, by omega⟩
    · rw [stepG_len h1 h2] at h; exact absurd h h2
  · rw [stepG_tag h1] at h; exact absurd h h1
theorem stepG_next {l : List UInt8} {p : Nat} (h : (stepG l p).1 = 0) : p + 2 ≤ (stepG l p).2.1 ∧ (stepG l p).2.1 ≤ l.length ∧ (stepG l p).2.2.2.1 ≤ (stepG l p).2.1 ∧ (stepG l p).2.1 = (stepG l p).2.2.2.1 + (stepG l p).2.2.2.2 ∧ (stepG l p).2.2.2.2 ≤ 65535 ∧ (tone (stepG l p).2.2.1 ∨ ttwo (stepG l p).2.2.1) := by
  obtain ⟨h1, h2, h3⟩ := stepG_ok h
  obtain ⟨t1, t2, t3, t4, t5⟩ := tget_put h1
  obtain ⟨b1, b2, b3, b4⟩ := berGet_put h2
  have b5 := berSz_le (berGet l (tget l p).2.1).1
  rw [stepG_yes h1 h2 h3]
  dsimp only
  refine ⟨by omega, by omega, by omega, rfl, by omega, t1⟩

theorem tlvF_end {s : ByteArray} {k p : Nat} {l : List Item} (h : s.size ≤ p) : tlvF s k p l = (0, 0, l) := by
  cases k with
  | zero => rfl
  | succ k => show (if s.size ≤ p then _ else _) = _; rw [if_pos h]
theorem tlvF_err {s : ByteArray} {k p : Nat} {l : List Item} (h : p < s.size) (hk : s.size < k + p) (he : (stepG s.data.toList p).1 ≠ 0) : tlvF s k p l = ((stepG s.data.toList p).1, (stepG s.data.toList p).2.1, []) := by
  cases k with
  | zero => omega
  | succ k => show (if s.size ≤ p then _ else if (stepG s.data.toList p).1 ≠ 0 then _ else _) = _; rw [if_neg (by omega), if_pos he]
theorem tlvF_twice {s : ByteArray} {k p : Nat} {l : List Item} (h : p < s.size) (hk : s.size < k + p) (he : (stepG s.data.toList p).1 = 0) (ht : (((stepG s.data.toList p).2.2.1 : Nat) : Int) ∈ tagsOf l) : tlvF s k p l = (10, p, []) := by
  cases k with
  | zero => omega
  | succ k =>
    show (if s.size ≤ p then _ else if (stepG s.data.toList p).1 ≠ 0 then _ else if (((stepG s.data.toList p).2.2.1 : Nat) : Int) ∈ tagsOf l then _ else _) = _
    rw [if_neg (by omega), if_neg (by simp [he]), if_pos ht]
theorem tlvF_step {s : ByteArray} {k p : Nat} {l : List Item} (h : p < s.size) (hk : s.size < k + p) (he : (stepG s.data.toList p).1 = 0) (ht : (((stepG s.data.toList p).2.2.1 : Nat) : Int) ∉ tagsOf l) :
    ∃ k', tlvF s k p l = tlvF s k' (stepG s.data.toList p).2.1 (l ++ [((((stepG s.data.toList p).2.2.1 : Nat) : Int), s.extract (stepG s.data.toList p).2.2.2.1 ((stepG s.data.toList p).2.2.2.1 + (stepG s.data.toList p).2.2.2.2))]) ∧ s.size < k' + (stepG s.data.toList p).2.1 := by
  cases k with
  | zero => omega
  | succ k =>
    refine ⟨k, ?_, ?_⟩
    · show (if s.size ≤ p then _ else if (stepG s.data.toList p).1 ≠ 0 then _ else if (((stepG s.data.toList p).2.2.1 : Nat) : Int) ∈ tagsOf l then _ else _) = _
      rw [if_neg (by omega), if_neg (by simp [he]), if_neg ht]
    · have := (stepG_next he).1
      omega

/-- With an error the list is of none. -/
theorem tlvF_none {s : ByteArray} : ∀ {k p : Nat} {l : List Item}, (tlvF s k p l).1 ≠ 0 → (tlvF s k p l).2.2 = []
  | 0, p, l, h => absurd rfl h
  | k + 1, p, l, h => by
    unfold tlvF at h ⊢
    split
    · rename_i h0; rw [if_pos h0] at h; exact absurd rfl h
    · rename_i h0
      rw [if_neg h0] at h
      split
      · rfl
      · rename_i h1
        rw [if_neg h1] at h
        split
        · rfl
        · rename_i h2
          rw [if_neg h2] at h
          exact tlvF_none h
theorem tlvN_none {s : ByteArray} (h : (tlvN s).1 ≠ 0) : (tlvN s).2.2 = [] := tlvF_none h
theorem tlvF_place {s : ByteArray} : ∀ {k p : Nat} {l : List Item}, (tlvF s k p l).1 = 0 → (tlvF s k p l).2.1 = 0
  | 0, p, l, _ => rfl
  | k + 1, p, l, h => by
    unfold tlvF at h ⊢
    split
    · rfl
    · rename_i h0
      rw [if_neg h0] at h
      split
      · rename_i h1; rw [if_pos h1] at h; exact absurd h h1
      · rename_i h1
        rw [if_neg h1] at h
        split
        · rename_i h2; rw [if_pos h2] at h; exact absurd h (by simp)
        · rename_i h2
          rw [if_neg h2] at h
          exact tlvF_place h

/-- What stands in bytes and is whole: its own bytes stand there. -/
theorem stepG_put {s : ByteArray} {p : Nat} (h : (stepG s.data.toList p).1 = 0) :
    bad1 [] ((((stepG s.data.toList p).2.2.1 : Nat) : Int), s.extract (stepG s.data.toList p).2.2.2.1 ((stepG s.data.toList p).2.2.2.1 + (stepG s.data.toList p).2.2.2.2)) = 0 ∧
    s.data.toList.take (stepG s.data.toList p).2.1 = s.data.toList.take p ++ putI ((((stepG s.data.toList p).2.2.1 : Nat) : Int), s.extract (stepG s.data.toList p).2.2.2.1 ((stepG s.data.toList p).2.2.2.1 + (stepG s.data.toList p).2.2.2.2)) := by
  obtain ⟨h1, h2, h3⟩ := stepG_ok h
  obtain ⟨t1, t2, t3, t4, t5⟩ := tget_put h1
  obtain ⟨b1, b2, b3, b4⟩ := berGet_put h2
  have b5 := berSz_le (berGet s.data.toList (tget s.data.toList p).2.1).1
  rw [stepG_yes h1 h2 h3]
  dsimp only
  generalize (tget s.data.toList p).1 = t at *
  generalize (tget s.data.toList p).2.1 = q at *
  generalize (berGet s.data.toList q).1 = n at *
  generalize (berGet s.data.toList q).2.1 = f at *
  have hl : s.data.toList.length = s.size := by simp
  have hsz : (s.extract f (f + n)).size = n := by simp; omega
  refine ⟨bad1_ok ((tagB_nat t).2 t1) (by show (s.extract f (f + n)).size ≤ 65535; omega) (by simp), ?_⟩
  have he : (s.extract f (f + n)).data.toList = (s.data.toList.drop f).take n := by simp [ByteArray.data_extract, List.extract_eq_take_drop]
  unfold putI
  dsimp only
  rw [hsz, he]
  rw [show ((t : Nat) : Int).toNat = t from rfl]
  have e1 : s.data.toList.take q = s.data.toList.take p ++ tputL t := by
    rw [t5, t4, List.take_add]
  have e2 : s.data.toList.take f = s.data.toList.take q ++ berL n := by
    rw [b4, b2, List.take_add]
  rw [List.take_add, e2, e1]
  simp

/-- Bytes that are got are put as they were. -/
theorem tlvF_one {s : ByteArray} : ∀ {k p : Nat} {l : List Item}, s.size < k + p → p ≤ s.size → Good l → tlvL l = s.data.toList.take p → (tlvF s k p l).1 = 0 →
    Good (tlvF s k p l).2.2 ∧ tlvL (tlvF s k p l).2.2 = s.data.toList
  | 0, p, l, hk, hp, _, _, _ => by omega
  | k + 1, p, l, hk, hp, hg, hput, h => by
    unfold tlvF at h ⊢
    split
    · rename_i h0
      refine ⟨hg, ?_⟩
      show tlvL l = _
      rw [hput, List.take_of_length_le (by simp; omega)]
    · rename_i h0
      rw [if_neg h0] at h
      split
      · rename_i h1; rw [if_pos h1] at h; exact absurd h h1
      · rename_i h1
        rw [if_neg h1] at h
        split
        · rename_i h2; rw [if_pos h2] at h; exact absurd h (by simp)
        · rename_i h2
          rw [if_neg h2] at h
          have h1' : (stepG s.data.toList p).1 = 0 := by simpa using h1
          obtain ⟨n1, n2, _⟩ := stepG_next h1'
          obtain ⟨q1, q2⟩ := stepG_put h1'
          obtain ⟨z1, z2, _⟩ := bad1_zero q1
          have hl : s.data.toList.length = s.size := by simp
          exact tlvF_one (by omega) (by omega) (good_snoc hg (bad1_ok z1 z2 h2)) (by rw [tlvL_snoc, hput, q2]) h
theorem tlvN_one {s : ByteArray} (h : (tlvN s).1 = 0) : Good (tlvN s).2.2 ∧ tlvL (tlvN s).2.2 = s.data.toList :=
  tlvF_one (by omega) (Nat.zero_le _) (fun j hj => by simp at hj) (by simp [tlvL]) h

/-- A list that is put is got. -/
theorem stepG_back (x y : List UInt8) (it : Item) (ht : tagB it.1 = true) (hs : it.2.size ≤ 65535) : stepG (x ++ putI it ++ y) x.length = (0, x.length + (putI it).length, it.1.toNat, x.length + (tputL it.1.toNat).length + (berL it.2.size).length, it.2.size) := by
  obtain ⟨z, s⟩ := it
  have h0 : 0 ≤ z := by
    by_cases g : 0 ≤ z
    · exact g
    · rw [tagB_far (Or.inl (by omega))] at ht; cases ht
  obtain ⟨n, rfl⟩ := Int.eq_ofNat_of_zero_le h0
  have ht' := (tagB_nat n).1 ht
  dsimp only at *
  rw [show ((n : Nat) : Int).toNat = n from rfl]
  have hsl : s.data.toList.length = s.size := by simp
  have e1 : tget (x ++ putI ((n : Int), s) ++ y) x.length = (n, x.length + (tputL n).length, 0) := by
    have := tget_back x (berL s.size ++ s.data.toList ++ y) ht'
    unfold putI
    rw [show ((n : Nat) : Int).toNat = n from rfl]
    simpa [List.append_assoc] using this
  have e2 : berGet (x ++ putI ((n : Int), s) ++ y) (x.length + (tputL n).length) = (s.size, x.length + (tputL n).length + (berL s.size).length, 0) := by
    have := berGet_back (x ++ tputL n) (s.data.toList ++ y) (n := s.size) (by omega)
    unfold putI
    rw [show ((n : Nat) : Int).toNat = n from rfl]
    rw [List.length_append] at this
    simpa [List.append_assoc] using this
  have hlen : (putI ((n : Int), s)).length = (tputL n).length + (berL s.size).length + s.size := by
    unfold putI
    rw [show ((n : Nat) : Int).toNat = n from rfl]
    simp only [List.length_append, hsl]
  rw [stepG_yes (by rw [e1]) (by rw [e1]; dsimp only; rw [e2]) (by rw [e1]; dsimp only; rw [e2]; dsimp only; simp only [List.length_append, hlen]; omega)]
  rw [e1]; dsimp only; rw [e2]; dsimp only
  rw [hlen]
  simp only [Prod.mk.injEq, true_and, and_true]
  omega
theorem tlvF_back {l : List Item} {s : ByteArray} (hg : Good l) (hs : s.data.toList = tlvL l) : ∀ (m i k : Nat), i + m = l.length → s.size < k + (tlvL (l.take i)).length → tlvF s k (tlvL (l.take i)).length (l.take i) = (0, 0, l)
  | 0, i, k, hi, hk => by
    obtain rfl : i = l.length := by omega
    rw [List.take_of_length_le (Nat.le_refl _)] at hk ⊢
    have hl : s.data.toList.length = s.size := by simp
    exact tlvF_end (by rw [← hl, hs]; exact Nat.le_refl _)
  | m + 1, i, k, hi, hk => by
    have hlt : i < l.length := by omega
    have hb := hg i hlt
    unfold badAt at hb
    obtain ⟨b1, b2, b3⟩ := bad1_zero hb
    have hsp : s.data.toList = tlvL (l.take i) ++ putI (itemAt l i) ++ tlvL (l.drop (i + 1)) := by
      rw [hs, ← tlvL_step hlt]
      unfold tlvL
      rw [← List.flatMap_append, List.take_append_drop]
    have hst := stepG_back (tlvL (l.take i)) (tlvL (l.drop (i + 1))) (itemAt l i) b1 b2
    rw [← hsp] at hst
    have hl : s.data.toList.length = s.size := by simp
    have hpl := putI_len (itemAt l i) b2
    have hlt2 : (tlvL (l.take i)).length < s.size := by rw [← hl, hsp]; simp only [List.length_append]; omega
    have h0 : 0 ≤ (itemAt l i).1 := by
      by_cases g : 0 ≤ (itemAt l i).1
      · exact g
      · rw [tagB_far (Or.inl (by omega))] at b1; cases b1
    have hz : (((itemAt l i).1.toNat : Nat) : Int) = (itemAt l i).1 := by omega
    have hex : s.extract ((tlvL (l.take i)).length + (tputL (itemAt l i).1.toNat).length + (berL (itemAt l i).2.size).length) ((tlvL (l.take i)).length + (tputL (itemAt l i).1.toNat).length + (berL (itemAt l i).2.size).length + (itemAt l i).2.size) = (itemAt l i).2 := by
      apply ByteArray.ext
      apply Array.ext'
      rw [show (s.extract ((tlvL (l.take i)).length + (tputL (itemAt l i).1.toNat).length + (berL (itemAt l i).2.size).length) ((tlvL (l.take i)).length + (tputL (itemAt l i).1.toNat).length + (berL (itemAt l i).2.size).length + (itemAt l i).2.size)).data.toList = (s.data.toList.drop ((tlvL (l.take i)).length + (tputL (itemAt l i).1.toNat).length + (berL (itemAt l i).2.size).length)).take (itemAt l i).2.size by simp [ByteArray.data_extract, List.extract_eq_take_drop]]
      rw [hsp]
      unfold putI
      have e : ∀ (a b c d r : List UInt8), ((a ++ (b ++ c ++ d) ++ r).drop (a.length + b.length + c.length)).take d.length = d := by
        intro a b c d r
        rw [show a ++ (b ++ c ++ d) ++ r = (a ++ b ++ c) ++ (d ++ r) by simp]
        rw [show a.length + b.length + c.length = (a ++ b ++ c).length by simp only [List.length_append], List.drop_left, List.take_left]
      have := e (tlvL (l.take i)) (tputL (itemAt l i).1.toNat) (berL (itemAt l i).2.size) (itemAt l i).2.data.toList (tlvL (l.drop (i + 1)))
      rwa [show (itemAt l i).2.data.toList.length = (itemAt l i).2.size by simp] at this
    obtain ⟨k', e1, e2⟩ := tlvF_step (l := l.take i) hlt2 hk (by rw [hst]) (by rw [hst]; dsimp only; rw [hz]; exact b3)
    rw [e1]
    rw [hst] at e2 ⊢
    dsimp only at e2 ⊢
    rw [hz, hex, show (((itemAt l i).1, (itemAt l i).2) : Item) = itemAt l i from rfl, ← take_succ_item hlt]
    rw [← List.length_append, ← tlvL_step hlt] at e2 ⊢
    exact tlvF_back hg hs m (i + 1) k' (by omega) e2
theorem tlvN_back {l : List Item} {s : ByteArray} (hg : Good l) (hs : s.data.toList = tlvL l) : tlvN s = (0, 0, l) := by
  have := tlvF_back hg hs l.length 0 (s.size + 1) (by omega) (by simp [tlvL])
  simpa [tlvN, tlvL] using this

def findS (l : List Item) (t : Int) : ByteArray := match l.find? (fun x => x.1 == t) with | some x => x.2 | none => ⟨#[]⟩
def findB (l : List Item) (t : Int) : Bool := l.any fun x => x.1 == t
theorem find_hit {l : List Item} {k : Nat} {t : Int} (hk : k < l.length) (h : ∀ j, j < k → (itemAt l j).1 ≠ t) (ht : (itemAt l k).1 = t) : findS l t = (itemAt l k).2 ∧ findB l t = true := by
  have e : l.find? (fun x => x.1 == t) = some (itemAt l k) := by
    rw [List.find?_eq_some_iff_getElem]
    refine ⟨by simpa using ht, k, hk, (itemAt_get hk).symm, fun j hj => ?_⟩
    have := h j hj
    rw [itemAt_get (by omega)] at this
    simpa using this
  refine ⟨by unfold findS; rw [e], ?_⟩
  unfold findB
  rw [List.any_eq_true]
  exact ⟨itemAt l k, by rw [itemAt_get hk]; exact List.getElem_mem hk, by simpa using ht⟩
theorem find_miss {l : List Item} {t : Int} (h : ∀ j, j < l.length → (itemAt l j).1 ≠ t) : findS l t = ⟨#[]⟩ ∧ findB l t = false := by
  have hall : ∀ x ∈ l, x.1 ≠ t := by
    intro x hx
    obtain ⟨i, hi, rfl⟩ := List.getElem_of_mem hx
    have := h i hi
    rwa [itemAt_get hi] at this
  have e : l.find? (fun x => x.1 == t) = none := by
    rw [List.find?_eq_none]
    intro x hx
    simpa using hall x hx
  refine ⟨by unfold findS; rw [e], ?_⟩
  unfold findB
  rw [List.any_eq_false]
  intro x hx
  simpa using hall x hx
def greatB (l : List Item) : Bool := decide (60 < l.length) || l.any fun x => decide (70000 < x.2.size)
theorem great_hit {l : List Item} {k : Nat} (hk : k < l.length) (h : 70000 < (itemAt l k).2.size) : greatB l = true := by
  unfold greatB
  rw [Bool.or_eq_true]
  right
  rw [List.any_eq_true]
  exact ⟨itemAt l k, by rw [itemAt_get hk]; exact List.getElem_mem hk, by simpa using h⟩
theorem great_miss {l : List Item} (hl : l.length ≤ 60) (h : ∀ j, j < l.length → (itemAt l j).2.size ≤ 70000) : greatB l = false := by
  unfold greatB
  rw [Bool.or_eq_false_iff]
  refine ⟨by simpa using hl, ?_⟩
  rw [List.any_eq_false]
  intro x hx
  obtain ⟨i, hi, rfl⟩ := List.getElem_of_mem hx
  have := h i hi
  rw [itemAt_get hi] at this
  simpa using this
theorem great_far {l : List Item} (hl : 60 < l.length) : greatB l = true := by unfold greatB; rw [Bool.or_eq_true]; left; simpa using hl
theorem not_great {l : List Item} (h : greatB l = false) : l.length ≤ 60 ∧ ∀ j, j < l.length → (itemAt l j).2.size ≤ 70000 := by
  refine ⟨?_, fun j hj => ?_⟩
  · by_cases g : 60 < l.length
    · rw [great_far g] at h; cases h
    · omega
  · by_cases g : 70000 < (itemAt l j).2.size
    · rw [great_hit hj g] at h; cases h
    · omega
def hasB (l : List Item) (n : Nat) (t : Int) : Bool := decide (t ∈ tagsOf (l.take n))
theorem mem_tags {l : List Item} {n : Nat} {t : Int} (hn : n ≤ l.length) : t ∈ tagsOf (l.take n) ↔ ∃ j, j < n ∧ (itemAt l j).1 = t := by
  unfold tagsOf
  rw [List.mem_map]
  constructor
  · rintro ⟨x, hx, rfl⟩
    obtain ⟨i, hi, rfl⟩ := List.getElem_of_mem hx
    have hi' : i < n := by simp at hi; omega
    exact ⟨i, hi', by rw [itemAt_get (by omega)]; simp⟩
  · rintro ⟨j, hj, rfl⟩
    refine ⟨itemAt l j, ?_, rfl⟩
    rw [itemAt_get (by omega), List.mem_take_iff_getElem]
    exact ⟨j, by omega, rfl⟩
theorem has_hit {l : List Item} {n k : Nat} {t : Int} (hn : n ≤ l.length) (hk : k < n) (ht : (itemAt l k).1 = t) : hasB l n t = true := by
  unfold hasB; rw [decide_eq_true_eq, mem_tags hn]; exact ⟨k, hk, ht⟩
theorem has_miss {l : List Item} {n : Nat} {t : Int} (hn : n ≤ l.length) (h : ∀ j, j < n → (itemAt l j).1 ≠ t) : hasB l n t = false := by
  unfold hasB; rw [decide_eq_false_iff_not, mem_tags hn]; rintro ⟨j, hj, e⟩; exact h j hj e

end Go.Proofs.YtnbllngljgmebaaDoor

/-
  Slices of tagged values: one that is read, a row of the call's own, a copy.
-/
namespace Go.Proofs.YtnbllngljgmebaaDoor
open Go.RowKit

def itemV (x : Item) : Value := .agg #[.int .i64 x.1, .string x.2]
def itemO (x : Item) : Obj := .cells #[.int .i64 x.1, .string x.2] 113
def itemC (x : Item) : List Value := [.int .i64 x.1, .string x.2]
def itemsC (l : List Item) : List Value := l.flatMap itemC
/-- A slice that holds these tagged values. -/
def Tlvs (w : World) (A : Option Addr) (l : List Item) : Prop := ∀ i, i < l.length → ∃ a, A = some a ∧ w.cell? (a.add (i * 2)) = some (.int .i64 (itemAt l i).1) ∧ w.cell? ⟨(a.add (i * 2)).block, (a.add (i * 2)).off + 1, none⟩ = some (.string (itemAt l i).2)
theorem Tlvs.below {w w' : World} {A : Option Addr} {l : List Item} (h : Tlvs w A l) (hb : Below w.heap.size w w') : Tlvs w' A l := fun i hi => by
  obtain ⟨a, ha, hc, hd⟩ := h i hi
  refine ⟨a, ha, ?_, ?_⟩
  · rw [hb.cell (block_lt_of_cell hc)]; exact hc
  · rw [hb.cell (block_lt_of_cell hd)]; exact hd
theorem tlvs_nil (w : World) (A : Option Addr) : Tlvs w A [] := fun i hi => by simp at hi

theorem Tryd.infoTlv : (Tryd.prog.info? 113).map (fun i => (i.zero, i.size, i.bytes)) = some (some (.agg #[.int .i64 0, .string ⟨#[]⟩]), 2, 24) := by kernel_rfl
theorem itemsC_length (l : List Item) : (itemsC l).length = l.length * 2 := by
  induction l with
  | nil => rfl
  | cons x r ih => simp only [itemsC, List.flatMap_cons, List.length_append, List.length_cons, itemC, List.length_nil] at *; omega
theorem itemsC_snoc (l : List Item) (x : Item) : itemsC (l ++ [x]) = itemsC l ++ itemC x := by simp [itemsC]
theorem itemsC_at : ∀ (l : List Item) (i : Nat), i < l.length → (itemsC l)[i * 2]? = some (.int .i64 (itemAt l i).1) ∧ (itemsC l)[i * 2 + 1]? = some (.string (itemAt l i).2)
  | [], i, h => by simp at h
  | x :: r, 0, _ => ⟨rfl, rfl⟩
  | x :: r, i + 1, h => by
    have ih := itemsC_at r i (by simpa using h)
    have e : itemsC (x :: r) = .int .i64 x.1 :: .string x.2 :: itemsC r := rfl
    have e2 : itemAt (x :: r) (i + 1) = itemAt r i := by simp [itemAt, List.getD]
    rw [e, e2, show (i + 1) * 2 = i * 2 + 1 + 1 by omega]
    simpa using ih
/-- What a row of the call's own holds, as a slice that is read. -/
theorem tlvs_own {w : World} {base n : Nat} {v : Value} {l : List Item} (h : w.ownsRow base 113 2 v n (itemsC l)) (hn : n = l.length) : ∃ A cap, v = .slice A l.length cap ∧ Tlvs w A l := by
  subst hn
  rcases h.2 with ⟨hv, h0⟩ | ⟨g, cap, cur, hv, _⟩
  · have : l = [] := List.eq_nil_of_length_eq_zero h0
    subst this
    exact ⟨none, 0, hv, tlvs_nil _ _⟩
  · refine ⟨some ⟨g, 0, none⟩, cap, hv, fun i hi => ⟨_, rfl, ?_⟩⟩
    subst hv
    have e1 : (⟨g, 0, none⟩ : Addr).add (i * 2) = ⟨g, i * 2, none⟩ := by rw [Addr.add_lit, Nat.zero_add]
    rw [e1]
    have hc := itemsC_at l i hi
    exact ⟨(h.cellAt (i * 2) (by omega)).trans hc.1, (h.cellAt (i * 2 + 1) (by omega)).trans hc.2⟩
theorem owns_below {w w' : World} {base e size n : Nat} {v : Value} {xs : List Value} (h : w.ownsRow base e size v n xs) (hb : Below w.heap.size w w') : w'.ownsRow base e size v n xs := by
  refine ⟨h.1, ?_⟩
  rcases h.2 with h1 | ⟨g', cap, cur, h1, h2, h3, h4⟩
  · exact .inl h1
  · exact .inr ⟨g', cap, cur, h1, h2, obj_below h3 hb, h4⟩
/-- A slice's cells, one behind the other. -/
theorem tlvs_news {w : World} {a : Addr} {l : List Item} (h : Tlvs w (some a) l) : ∀ j u, (itemsC l)[j]? = some u → w.cell? (a.add j) = some u := by
  intro j u hu
  have hj := (List.getElem?_eq_some_iff.1 hu).1
  rw [itemsC_length] at hj
  obtain ⟨a', ha, hc, hd⟩ := h (j / 2) (by omega)
  injection ha with ha
  subst ha
  have hat := itemsC_at l (j / 2) (by omega)
  rcases Nat.mod_two_eq_zero_or_one j with hm | hm
  · have e : j / 2 * 2 = j := by omega
    rw [e] at hc hat
    rw [hc, ← hat.1, hu]
  · have e : j / 2 * 2 + 1 = j := by omega
    rw [e] at hat
    rw [hat.2] at hu
    rw [← hu, ← hd]
    congr 1
    have e3 : j = j / 2 * 2 + 1 := by omega
    generalize j / 2 * 2 = q at *
    subst e3
    unfold Addr.add
    by_cases hq : q = 0
    · subst hq; simp
    · simp [hq]; omega
theorem items_one (l : List Item) : ∀ u ∈ itemsC l, u.oneCell' = true := by
  intro u hu
  simp only [itemsC, List.mem_flatMap, itemC] at hu
  obtain ⟨x, _, hx⟩ := hu
  simp at hx
  rcases hx with rfl | rfl <;> rfl
/-- A copy of a slice, in a row of the call's own. -/
theorem tlvs_copy {w : World} {base g c n : Nat} {l : List Item} (h : w.ownsRow base 113 2 (.slice (some ⟨g, 0, none⟩) n c) n (itemsC l)) (hn : n = l.length) : Tlvs w (some ⟨g, 0, none⟩) l := by
  obtain ⟨A, cap, hv, ht⟩ := tlvs_own h hn
  injection hv with h1 h2 h3
  subst h1
  exact ht

/-- 'append([]api.Tlv{}, l...)': a slice of the call's own that holds the same, also where l is of none. -/
theorem wpList_copy_tlvs {ops : Array Oper} {rest : List Oper} {o : Oper} {a : Act} {Q : Exit → Act → World → Prop} (hgd : o.guard = none) (s x : Operand)
    (ho : o.op = .call { callee := .builtin .append, args := #[s, x], argTypes := #[95, 95] }) (W : World) (hs : a.eval s = .slice (some ⟨W.heap.size, 0, none⟩) 0 0)
    (A : Option Addr) (c len : Nat) (hx : a.eval x = .slice A len c) (l : List Item) (hlen : l.length = len) (hT : Tlvs W A l) (hl : len ≤ 5000000)
    (h : ∀ A' c' w', Tlvs w' A' l → Below W.heap.size W w' → wpList Tryd.prog ops Q rest (a.put o.dst (.slice A' len c')) w') : wpList Tryd.prog ops Q (o :: rest) a (W.alloc (.cells #[] 113)) := by
  obtain ⟨i0, hi, hz0, hz1, hz2⟩ := info_parts Tryd.infoTlv
  by_cases h0 : len = 0
  · subst h0
    have hnil : l = [] := List.eq_nil_of_length_eq_zero hlen
    subst hnil
    refine wpList_plain hgd fun K hK => ?_
    have hr : (Builtin.append_ #[95, 95] o.type #[.slice (some ⟨W.heap.size, 0, none⟩) 0 0, .slice A 0 c]).run Tryd.prog (W.alloc (.cells #[] 113)) = .ok (.slice (some ⟨W.heap.size, 0, none⟩) 0 0) (W.alloc (.cells #[] 113)) := by
      cases A <;> simp [Builtin.append_, run_underlying Tryd.underlying95, sizeOf, typeInfo, hi, Builtin.lenOf, Builtin.firstCells, storeCells, loadCells, loadCellsFrom]
    unfold Oper.wp execOp
    simp only [ho, resolve, invoke, builtin, Sem.run_bind, Sem.run_pure, Result.andThen_ok, List.map_toArray, List.map_cons, List.map_nil, hs, hx, hr]
    exact hK _ _ (h _ _ _ (tlvs_nil _ _) (below_al _ _))
  · obtain ⟨a', rfl, _⟩ := hT 0 (by omega)
    have hown : (W.alloc (.cells #[] 113)).ownsRow W.heap.size 113 2 (.slice (some ⟨W.heap.size, 0, none⟩) 0 0) 0 [] := World.ownsRow_lit W #[] 0 (Nat.le_refl _) (by unfold maxLen; omega) rfl
    refine wpList_append_lies _ hgd s x _ ho W.heap.size 113 i0 _ 2 24 Tryd.underlying95 hi hz0 hz1 hz2 rfl (by omega) (.slice (some ⟨W.heap.size, 0, none⟩) 0 0) 0 [] hs hown a' len c (itemsC l) hx (by rw [itemsC_length, hlen]) (tlvs_news (hT.below (below_al W (.cells #[] 113)))) (items_one l) (by omega) (by unfold maxLen; omega) (by omega) (by simp) (W.heap.size + 1) (by simp) ?_
    intro g' cap' w2 hown2 hgrow hat hlt2
    rw [Nat.zero_add] at hown2 ⊢
    exact h _ _ _ (tlvs_copy (by simpa using hown2) hlen.symm) ((below_al W _).grown hgrow (by simp) (by intro q hq; simp [Value.ownBlock] at hq; omega))

end Go.Proofs.YtnbllngljgmebaaDoor

/-
  What one answers: for every text and every place in it, in every world.
-/
namespace Go.Proofs.YtnbllngljgmebaaDoor
open Go.RowKit

set_option maxRecDepth 100000 in
set_option maxHeartbeats 1600000 in
theorem step_tag (s : ByteArray) (p t q e1 : Nat) (w : World) (he : e1 ≠ 0)
    (HT : Hid (∀ W, Calls Tryd.prog 103 #[.string s, .int .i64 (p : Int)] W fun e w' => e = .returned (.tuple #[.int .i64 (t : Int), .int .i64 (q : Int), .int .i64 (e1 : Int)]) ∧ W = w')) :
    Calls Tryd.prog 97 #[.string s, .int .i64 (p : Int)] w fun e w' => e = .returned (.tuple #[.agg #[.int .i64 0, .string ⟨#[]⟩], .int .i64 (p : Int), .int .i64 (e1 : Int)]) ∧ Below w.heap.size w w' := by
  have h0 : ((e1 : Int) == 0) = false := by simp; omega
  go_enter Tryd.func97, Tryd.ntmps97
  go_wp2_with fail
  refine (HT.out _).mono ?_
  rintro e w1 ⟨rfl, rfl⟩
  go_wp2
  refine bodyPost_ret (results_cell_row2 rfl _ _ w.heap.size _ _ _ _ rfl (heap_al _ _ _ rfl) Tryd.underlying113 rfl (by kernel_rfl)) rfl ?_
  exact ⟨rfl, below_al _ _⟩

set_option maxRecDepth 100000 in
set_option maxHeartbeats 1600000 in
theorem step_len (s : ByteArray) (p t q n f e2 : Nat) (w : World) (he : e2 ≠ 0)
    (HT : Hid (∀ W, Calls Tryd.prog 103 #[.string s, .int .i64 (p : Int)] W fun e w' => e = .returned (.tuple #[.int .i64 (t : Int), .int .i64 (q : Int), .int .i64 0]) ∧ W = w'))
    (HN : Hid (∀ W, Calls Tryd.prog 104 #[.string s, .int .i64 (q : Int)] W fun e w' => e = .returned (.tuple #[.int .i64 (n : Int), .int .i64 (f : Int), .int .i64 (e2 : Int)]) ∧ W = w')) :
    Calls Tryd.prog 97 #[.string s, .int .i64 (p : Int)] w fun e w' => e = .returned (.tuple #[.agg #[.int .i64 0, .string ⟨#[]⟩], .int .i64 (q : Int), .int .i64 (e2 : Int)]) ∧ Below w.heap.size w w' := by
  have h0 : ((e2 : Int) == 0) = false := by simp; omega
  go_enter Tryd.func97, Tryd.ntmps97
  go_wp2_with fail
  refine (HT.out _).mono ?_
  rintro e w1 ⟨rfl, rfl⟩
  go_wp2_with fail
  refine (HN.out _).mono ?_
  rintro e w1 ⟨rfl, rfl⟩
  go_wp2
  refine bodyPost_ret (results_cell_row2 rfl _ _ w.heap.size _ _ _ _ rfl (heap_al _ _ _ rfl) Tryd.underlying113 rfl (by kernel_rfl)) rfl ?_
  exact ⟨rfl, below_al _ _⟩

set_option maxRecDepth 100000 in
set_option maxHeartbeats 1600000 in
theorem step_cut (s : ByteArray) (p t q n f : Nat) (w : World) (hs : s.size ≤ 5000000) (hn : n ≤ 65535) (hf : f ≤ 5000000) (hc : s.size < f + n)
    (HT : Hid (∀ W, Calls Tryd.prog 103 #[.string s, .int .i64 (p : Int)] W fun e w' => e = .returned (.tuple #[.int .i64 (t : Int), .int .i64 (q : Int), .int .i64 0]) ∧ W = w'))
    (HN : Hid (∀ W, Calls Tryd.prog 104 #[.string s, .int .i64 (q : Int)] W fun e w' => e = .returned (.tuple #[.int .i64 (n : Int), .int .i64 (f : Int), .int .i64 0]) ∧ W = w')) :
    Calls Tryd.prog 97 #[.string s, .int .i64 (p : Int)] w fun e w' => e = .returned (.tuple #[.agg #[.int .i64 0, .string ⟨#[]⟩], .int .i64 (s.size : Int), .int .i64 2]) ∧ Below w.heap.size w w' := by
  go_enter Tryd.func97, Tryd.ntmps97
  go_wp2_with fail
  refine (HT.out _).mono ?_
  rintro e w1 ⟨rfl, rfl⟩
  go_wp2_with fail
  refine (HN.out _).mono ?_
  rintro e w1 ⟨rfl, rfl⟩
  go_wp2
  refine bodyPost_ret (results_cell_row2 rfl _ _ w.heap.size _ _ _ _ rfl (heap_al _ _ _ rfl) Tryd.underlying113 rfl (by kernel_rfl)) rfl ?_
  exact ⟨rfl, below_al _ _⟩

set_option maxRecDepth 100000 in
set_option maxHeartbeats 1600000 in
theorem step_yes (s : ByteArray) (p t q n f : Nat) (w : World) (hs : s.size ≤ 5000000) (hc : f + n ≤ s.size)
    (HT : Hid (∀ W, Calls Tryd.prog 103 #[.string s, .int .i64 (p : Int)] W fun e w' => e = .returned (.tuple #[.int .i64 (t : Int), .int .i64 (q : Int), .int .i64 0]) ∧ W = w'))
    (HN : Hid (∀ W, Calls Tryd.prog 104 #[.string s, .int .i64 (q : Int)] W fun e w' => e = .returned (.tuple #[.int .i64 (n : Int), .int .i64 (f : Int), .int .i64 0]) ∧ W = w')) :
    Calls Tryd.prog 97 #[.string s, .int .i64 (p : Int)] w fun e w' => e = .returned (.tuple #[.agg #[.int .i64 (t : Int), .string (s.extract f (f + n))], .int .i64 ((f + n : Nat) : Int), .int .i64 0]) ∧ Below w.heap.size w w' := by
  have hc' : ¬ (s.size < f + n) := by omega
  go_enter Tryd.func97, Tryd.ntmps97
  go_wp2_with fail
  refine (HT.out _).mono ?_
  rintro e w1 ⟨rfl, rfl⟩
  go_wp2_with fail
  refine (HN.out _).mono ?_
  rintro e w1 ⟨rfl, rfl⟩
  go_wp2
  refine bodyPost_ret (results_cell_row2 rfl _ _ w.heap.size _ _ _ _ rfl (heap_al _ _ _ rfl) Tryd.underlying113 rfl (by kernel_rfl)) rfl ?_
  exact ⟨rfl, below_al _ _⟩

/-- The answer at a place where something is wrong; where a tagged value stands. -/
theorem step_err (s : ByteArray) (p : Nat) (w : World) (hs : s.size ≤ 5000000) (hp : p ≤ s.size) (h : (stepG s.data.toList p).1 ≠ 0) :
    Calls Tryd.prog 97 #[.string s, .int .i64 (p : Int)] w fun e w' => e = .returned (.tuple #[.agg #[.int .i64 0, .string ⟨#[]⟩], .int .i64 ((stepG s.data.toList p).2.1 : Int), .int .i64 ((stepG s.data.toList p).1 : Int)]) ∧ Below w.heap.size w w' := by
  have hl : s.data.toList.length = s.size := by simp
  have HT := fun W => tget_any p s W hs hp
  unfold tgetV at HT
  by_cases h1 : (tget s.data.toList p).2.2 = 0
  · obtain ⟨t1, t2, t3, t4, t5⟩ := tget_put h1
    rw [h1] at HT
    have HN := fun W => berget_any (tget s.data.toList p).2.1 s W hs (by omega)
    unfold bergetV at HN
    by_cases h2 : (berGet s.data.toList (tget s.data.toList p).2.1).2.2 = 0
    · obtain ⟨b1, b2, b3, b4⟩ := berGet_put h2
      rw [h2] at HN
      by_cases h3 : s.data.toList.length < (berGet s.data.toList (tget s.data.toList p).2.1).2.1 + (berGet s.data.toList (tget s.data.toList p).2.1).1
      · rw [stepG_cut h1 h2 h3, hl]
        exact step_cut s p _ _ _ _ w hs (by omega) (by omega) (by omega) (Lib.hid HT) (Lib.hid HN)
      · rw [stepG_yes h1 h2 (by omega)] at h; exact absurd rfl h
    · rw [stepG_len h1 h2]
      exact step_len s p _ _ _ _ _ w h2 (Lib.hid HT) (Lib.hid HN)
  · rw [stepG_tag h1]
    exact step_tag s p _ _ _ w h1 (Lib.hid HT)
theorem step_ok (s : ByteArray) (p : Nat) (w : World) (hs : s.size ≤ 5000000) (hp : p ≤ s.size) (h : (stepG s.data.toList p).1 = 0) :
    Calls Tryd.prog 97 #[.string s, .int .i64 (p : Int)] w fun e w' => e = .returned (.tuple #[.agg #[.int .i64 ((stepG s.data.toList p).2.2.1 : Int), .string (s.extract (stepG s.data.toList p).2.2.2.1 ((stepG s.data.toList p).2.2.2.1 + (stepG s.data.toList p).2.2.2.2))], .int .i64 ((stepG s.data.toList p).2.1 : Int), .int .i64 0]) ∧ Below w.heap.size w w' := by
  have hl : s.data.toList.length = s.size := by simp
  have HT := fun W => tget_any p s W hs hp
  unfold tgetV at HT
  obtain ⟨h1, h2, h3⟩ := stepG_ok h
  obtain ⟨t1, t2, t3, t4, t5⟩ := tget_put h1
  rw [h1] at HT
  have HN := fun W => berget_any (tget s.data.toList p).2.1 s W hs (by omega)
  unfold bergetV at HN
  rw [h2] at HN
  rw [stepG_yes h1 h2 h3]
  dsimp only
  exact step_yes s p _ _ _ _ w hs (by omega) (Lib.hid HT) (Lib.hid HN)

end Go.Proofs.YtnbllngljgmebaaDoor

/-
  Which tags stand ahead, kept in a map that the call has made: a look-up, a new key.
-/
namespace Go.Proofs.YtnbllngljgmebaaDoor
open Go.RowKit Go.Maps

theorem int_law : Keyed Tryd.prog 3 := int_keyed Tryd.underlying3
theorem zero_bool (w : World) : (zeroValue 4).run Tryd.prog w = .ok (.bool false) w := by kernel_rfl
theorem wf_i64 {z : Int} (h1 : -9223372036854775808 ≤ z) (h2 : z ≤ 9223372036854775807) : (Lit.int .i64 z).wf = true := by
  have e1 : IntKind.i64.min = -9223372036854775808 := rfl
  have e2 : IntKind.i64.max = 9223372036854775807 := rfl
  simp only [Lit.wf, Bool.and_eq_true, decide_eq_true_eq]
  omega
set_option maxRecDepth 100000 in
theorem plain_bool_inv {v : Value} {z : DataW Unit × List MemPlace} (h : plainElem Tryd.prog 4 v = some z) : ∃ x, v = .bool x ∧ z = (.lit (.bool x), []) := by
  unfold plainElem at h
  rw [Tryd.underlying4] at h
  cases v <;> simp at h
  rename_i x
  exact ⟨x, rfl, h.symm⟩

/-- The map in block m has just these keys, each with true. -/
def Seen (w : World) (m : Nat) (ts : List Int) : Prop :=
  ∃ D : DataW Unit, w.ownsMap Tryd.prog 3 (plainElem Tryd.prog 4) m ts.length D ∧ ∀ z, D.atKey (.int .i64 z) (.lit (.bool false)) = .lit (.bool (decide (z ∈ ts)))

theorem Seen.below {w w' : World} {m : Nat} {ts : List Int} (h : Seen w m ts) (hb : Below w.heap.size w w') : Seen w' m ts := by
  obtain ⟨D, ⟨es, clock, ho, hr⟩, h2⟩ := h
  exact ⟨D, ⟨es, clock, obj_below ho hb, hr⟩, h2⟩
theorem Seen.lt {w : World} {m : Nat} {ts : List Int} (h : Seen w m ts) : m < w.heap.size := by
  obtain ⟨D, ⟨es, clock, ho, hr⟩, h2⟩ := h
  exact obj_lt ho
theorem seen_new (w : World) : Seen (w.alloc (.map #[] 0)) w.heap.size [] :=
  ⟨.map [], World.ownsMap_made w _ _ _, fun z => by simp [DataW.atKey]⟩
set_option maxRecDepth 100000 in
theorem seen_look {w : World} {m : Nat} {ts : List Int} (h : Seen w m ts) {z : Int} (hz : (Lit.int .i64 z).wf = true) :
    (Instr.lookup 136 (.map (some m)) (.int .i64 z) false).run Tryd.prog w = .ok (.bool (decide (z ∈ ts))) w := by
  obtain ⟨D, hown, hat⟩ := h
  obtain ⟨v, ps, hrun, hv⟩ := hown.lookup int_law Tryd.underlying136 (zero_bool w) (plainElem_bool Tryd.underlying4 false) (keyOf_int_mk Tryd.underlying3 hz)
  obtain ⟨x, rfl, hx⟩ := plain_bool_inv hv
  rw [hat z] at hx
  injection hx with hx
  injection hx with hx
  injection hx with hx
  rw [hrun, ← hx]
theorem seen_put {w : World} {m : Nat} {ts : List Int} (h : Seen w m ts) {z : Int} (hz : (Lit.int .i64 z).wf = true) (hl : ts.length ≤ 5000000) :
    ∃ w', (Instr.mapUpdate 136 (.map (some m)) (.int .i64 z) (.bool true)).run Tryd.prog w = .ok () w' ∧ Seen w' m (ts ++ [z]) ∧ w.grownBy w' (some m) := by
  obtain ⟨D, hown, hat⟩ := h
  obtain ⟨w', hrun, hown', hg⟩ := hown.update int_law Tryd.underlying136 (by unfold maxLen; omega) (keyOf_int_mk Tryd.underlying3 hz) (plainElem_bool Tryd.underlying4 true)
  refine ⟨w', hrun, ⟨_, by rw [List.length_append]; exact hown', fun y => ?_⟩, hg⟩
  by_cases hy : y = z
  · subst hy
    rw [atKey_put_same hown.isMap (int_law.key (keyOf_int_mk Tryd.underlying3 hz))]
    simp
  · rw [atKey_put_other (fun e => hy (by injection e)), hat y]
    simp [hy]

theorem Seen.kept {w w' : World} {m : Nat} {ts : List Int} {row : Option Nat} (h : Seen w m ts) (hg : w.grownBy w' row) (hne : some m ≠ row) : Seen w' m ts := by
  obtain ⟨D, hown, hat⟩ := h
  exact ⟨D, hown.kept hg hne, hat⟩
/-- A row of the call's own is no map. -/
theorem own_seen {w : World} {base e size n m : Nat} {v : Value} {xs : List Value} {ts : List Int} (h : w.ownsRow base e size v n xs) (hS : Seen w m ts) : v.ownBlock ≠ some m := by
  obtain ⟨D, ⟨es, clock, ho, _⟩, _⟩ := hS
  intro he
  rcases h.2 with ⟨hv, _⟩ | ⟨g, cap, cur, hv, _, hg, _⟩
  · subst hv; simp [Value.ownBlock] at he
  · subst hv
    simp [Value.ownBlock] at he
    subst he
    rw [hg] at ho
    cases ho

end Go.Proofs.YtnbllngljgmebaaDoor

/-
  What Get answers: for every text of up to 5,000,000 bytes, in every world.
-/
namespace Go.Proofs.YtnbllngljgmebaaDoor
open Go.RowKit Go.Maps

/-- Where the reading stands: the place, the list so far, and that the answer is what is still to come. -/
def Reads (s : ByteArray) (p : Nat) (l : List Item) : Prop := ∃ k, tlvF s k p l = tlvN s ∧ s.size < k + p ∧ p ≤ s.size ∧ l.length ≤ p
theorem reads_start (s : ByteArray) : Reads s 0 [] := ⟨s.size + 1, rfl, by omega, Nat.zero_le _, Nat.zero_le _⟩
theorem Reads.done {s : ByteArray} {p : Nat} {l : List Item} (h : Reads s p l) (hp : s.size ≤ p) : tlvN s = (0, 0, l) := by
  obtain ⟨k, h1, h2, h3, h4⟩ := h
  rw [← h1, tlvF_end hp]
theorem Reads.err {s : ByteArray} {p : Nat} {l : List Item} (h : Reads s p l) (hp : p < s.size) (he : (stepG s.data.toList p).1 ≠ 0) : tlvN s = ((stepG s.data.toList p).1, (stepG s.data.toList p).2.1, []) := by
  obtain ⟨k, h1, h2, h3, h4⟩ := h
  rw [← h1, tlvF_err hp h2 he]
theorem Reads.twice {s : ByteArray} {p : Nat} {l : List Item} (h : Reads s p l) (hp : p < s.size) (he : (stepG s.data.toList p).1 = 0) (ht : (((stepG s.data.toList p).2.2.1 : Nat) : Int) ∈ tagsOf l) : tlvN s = (10, p, []) := by
  obtain ⟨k, h1, h2, h3, h4⟩ := h
  rw [← h1, tlvF_twice hp h2 he ht]
theorem Reads.step {s : ByteArray} {p : Nat} {l : List Item} (h : Reads s p l) (hp : p < s.size) (he : (stepG s.data.toList p).1 = 0) (ht : (((stepG s.data.toList p).2.2.1 : Nat) : Int) ∉ tagsOf l) :
    Reads s (stepG s.data.toList p).2.1 (l ++ [((((stepG s.data.toList p).2.2.1 : Nat) : Int), s.extract (stepG s.data.toList p).2.2.2.1 ((stepG s.data.toList p).2.2.2.1 + (stepG s.data.toList p).2.2.2.2))]) := by
  obtain ⟨k, h1, h2, h3, h4⟩ := h
  obtain ⟨k', e1, e2⟩ := tlvF_step (l := l) hp h2 he ht
  have hn := stepG_next he
  have hl : s.data.toList.length = s.size := by simp
  exact ⟨k', by rw [← e1, h1], e2, by omega, by simp; omega⟩

set_option maxRecDepth 100000 in
set_option maxHeartbeats 6400000 in
theorem tlvget_any (s : ByteArray) (w : World) (hs : s.size ≤ 5000000) :
    Calls Tryd.prog 84 #[.string s] w fun e w' => ∃ A cap, e = .returned (.tuple #[.slice A (tlvN s).2.2.length cap, .int .i64 ((tlvN s).1 : Int), .int .i64 ((tlvN s).2.1 : Int)]) ∧ Tlvs w' A (tlvN s).2.2 ∧ Below w.heap.size w w' := by
  obtain ⟨i0, hi, hz0, hz1, hz2⟩ := info_parts Tryd.infoTlv
  have hmm := @run_makeMap Tryd.prog
  go_enter Tryd.func84, Tryd.ntmps84
  go_wp2
  go_loopw [5, 7] (fun v i wr => ∃ (p : Nat) (l : List Item), p ≤ s.size ∧ i = .int .i64 (p : Int) ∧ Reads s p l ∧ wr.ownsRow w.heap.size 113 2 v l.length (itemsC l) ∧ Seen wr w.heap.size (tagsOf l) ∧ Below w.heap.size w wr) (fun _ i _ => s.size - (intOf i).toNat)
  case atStart => exact ⟨0, [], Nat.zero_le _, rfl, reads_start s, World.ownsRow_nil _ _ _ _, seen_new w, below_al _ _⟩
  case round =>
    obtain ⟨p, l, hp, rfl, hR, hown, hS, hb⟩ := hrel
    have HR := Lib.hid hR
    have HO := Lib.hid hown
    have HS := Lib.hid hS
    have HB := Lib.hid hb
    clear hR hown hS hb
    by_cases hlt : p < s.size
    · by_cases he : (stepG s.data.toList p).1 = 0
      · have HC := Lib.hid (fun W => step_ok s p W hs hp he)
        have hn := stepG_next he
        have hl : s.data.toList.length = s.size := by simp
        have HT := Lib.hid (HR.out.twice hlt he)
        have HP := Lib.hid (HR.out.step hlt he)
        have HLP : Hid (l.length ≤ p) := by obtain ⟨k, h1, h2, h3, h4⟩ := HR.out; exact h4
        have hq : (stepG s.data.toList p).2.1 ≤ s.size := by omega
        have hq2 : p < (stepG s.data.toList p).2.1 := by omega
        have HTT := Lib.hid hn.2.2.2.2.2
        clear hn hl he
        generalize (stepG s.data.toList p).2.1 = q at *
        generalize (stepG s.data.toList p).2.2.1 = t at *
        generalize s.extract (stepG s.data.toList p).2.2.2.1 ((stepG s.data.toList p).2.2.2.1 + (stepG s.data.toList p).2.2.2.2) = x at *
        have HTZ : Hid ((Lit.int .i64 (t : Int)).wf = true) := by
          have : t < 65536 := by
            rcases HTT.out with h | h
            · have := h.1; omega
            · exact h.2.1
          exact wf_i64 (by omega) (by omega)
        clear HTT
        go_wp2_with fail
        refine (HC.out _).mono ?_
        rintro e w1 ⟨rfl, hb1⟩
        have HB1 := Lib.hid (hbt HB.out hb1)
        have HO1 := Lib.hid ((owns_below HO.out hb1).alloc (.cells #[.int .i64 (t : Int), .string x] 113))
        have HS1 := Lib.hid ((HS.out.below hb1).below (below_al w1 (.cells #[.int .i64 (t : Int), .string x] 113)))
        have HM := Lib.hid (HS.out.below hb1).lt
        clear hb1
        have hlk := seen_look HS1.out HTZ.out
        by_cases hm : (t : Int) ∈ tagsOf l
        · rw [decide_eq_true hm] at hlk
          have HE := Lib.hid (HT.out hm)
          clear hm
          go_wp2
          go_ret3
          exact ⟨none, 0, by rw [HE.out]; rfl, by rw [HE.out]; exact tlvs_nil _ _, hbt HB1.out (below_al _ _)⟩
        · rw [decide_eq_false hm] at hlk
          have HE := Lib.hid (HP.out hm)
          clear hm
          obtain ⟨w3, hrun, hS3, hg3⟩ := seen_put HS1.out HTZ.out (by have := HLP.out; simp [tagsOf]; omega)
          have HS3 := Lib.hid hS3
          have hob : w3.heap[w1.heap.size]? = some (.cells #[.int .i64 (t : Int), .string x] 113) := (hg3.block _ (by simp) (fun e => by have := HM.out; injection e with e; omega)).trans (heap_alloc_new _ _)
          obtain ⟨d0, d1, _, _⟩ := obj_cells hob
          have HO3 := Lib.hid ((HO1.out.kept hg3 (Or.inr (own_seen HO1.out HS1.out))).alloc (.cells #[.int .i64 (t : Int), .string x] 113))
          have HB3 := Lib.hid ((hbt HB1.out (below_al _ (.cells #[.int .i64 (t : Int), .string x] 113))).grown hg3 (by have := HB1.out.size; simp; omega) (fun q hq => by cases hq; exact Nat.le_refl _))
          clear hS3 hg3 hob
          have hl5 : l.length ≤ 5000000 := by have := HLP.out; omega
          go_wp2_with (at_builtin; refine wpList_append_lies _ rfl _ _ _ rfl w.heap.size 113 i0 _ 2 24 Tryd.underlying95 hi hz0 hz1 hz2 rfl (by omega) _ l.length (itemsC l) rfl HO3.out ⟨w3.heap.size, 0, none⟩ 1 1 (itemC ((t : Int), x)) rfl rfl (World.news_of_block (cs := #[.int .i64 (t : Int), .string x]) (t := 113) (fr := (0, 0)) (heap_alloc_new w3 _)) (by simp [itemC, Value.oneCell']) (by omega) (by unfold maxLen; omega) (by omega) (by have := HB3.out.size; simp; omega) (w3.heap.size + 1) (by simp) ?_; intro g' cap' w4 hown4 hgrow4 hat4 hlt4)
          have HO4 := Lib.hid hown4
          have HS4 := Lib.hid ((HS3.out.below (below_al _ _)).kept hgrow4 (fun e => own_seen HO3.out (HS3.out.below (below_al _ _)) e.symm))
          have HB4 := Lib.hid ((hbt HB3.out (below_al _ _)).grown hgrow4 (by have := HB3.out.size; simp; omega) (fun q hq => (HO3.out.lt q hq).1))
          clear hown4 hgrow4 hat4 hlt4
          go_wp2
          go_roundw
          case rel =>
            refine ⟨q, l ++ [((t : Int), x)], by omega, by go_num, HE.out, ?_, ?_, HB4.out⟩
            · rw [itemsC_snoc, List.length_append]; exact HO4.out
            · rw [show tagsOf (l ++ [((t : Int), x)]) = tagsOf l ++ [(t : Int)] by simp [tagsOf]]; exact HS4.out
          case measure => simp [intOf]; omega
      · have HC := Lib.hid (fun W => step_err s p W hs hp he)
        have HE := Lib.hid (HR.out.err hlt he)
        generalize (stepG s.data.toList p).1 = b at *
        generalize (stepG s.data.toList p).2.1 = q at *
        have he' : ((b : Int) == 0) = false := by simp; omega
        go_wp2_with fail
        refine (HC.out _).mono ?_
        rintro e w1 ⟨rfl, hb1⟩
        have HB1 := Lib.hid (hbt HB.out hb1)
        clear hb1
        go_wp2
        go_ret3
        exact ⟨none, 0, by rw [HE.out]; rfl, by rw [HE.out]; exact tlvs_nil _ _, hbt HB1.out (below_al _ _)⟩
    · have HE := Lib.hid (HR.out.done (by omega))
      obtain ⟨A, cap, rfl, hT⟩ := tlvs_own HO.out rfl
      have HT := Lib.hid hT
      clear hT HO
      go_wp2
      go_ret3
      exact ⟨A, cap, by rw [HE.out]; rfl, by rw [HE.out]; exact HT.out, HB.out⟩

end Go.Proofs.YtnbllngljgmebaaDoor

/-
  What Find, great, has and Same answer: for every list, in every world.
-/
namespace Go.Proofs.YtnbllngljgmebaaDoor
open Go.RowKit


set_option maxRecDepth 100000 in
set_option maxHeartbeats 1600000 in
theorem tlvhas_any (A : Option Addr) (cap : Nat) (l : List Item) (n : Nat) (t : Int) (w : World) (hI : Tlvs w A l) (hn : n ≤ l.length) (hl : l.length ≤ 5000000) :
    Calls Tryd.prog 76 #[.slice A l.length cap, .int .i64 (n : Int), .int .i64 t] w fun e w' => e = .returned (.bool (hasB l n t)) ∧ w = w' := by
  have HI := Lib.hid hI
  clear hI
  generalize hlen : l.length = len at *
  have HLEN := Lib.hid hlen
  clear hlen
  go_enter Tryd.func76, Tryd.ntmps76
  go_wp2
  go_loop [7] (fun i => ∃ k : Nat, k ≤ n ∧ i = .int .i64 (k : Int) ∧ (∀ j, j < k → (itemAt l j).1 ≠ t)) (fun i => n - (intOf i).toNat)
  case atStart => exact ⟨0, Nat.zero_le _, rfl, fun j hj => by omega⟩
  case round =>
    obtain ⟨k, hk, rfl, hno⟩ := hrel
    have HNO := Lib.hid hno
    clear hno
    by_cases hlt : k < n
    · obtain ⟨a, rfl, hc, hd⟩ := HI.out k (by have := HLEN.out; omega)
      have hkl : k < len := by omega
      generalize hx : itemAt l k = x at *
      have HX := Lib.hid hx
      clear hx
      obtain ⟨z, s⟩ := x
      dsimp only at hc hd
      by_cases hzt : z = t
      · have HF := Lib.hid (has_hit (l := l) (by rw [HLEN.out]; exact hn) hlt (by rw [HX.out]))
        subst hzt
        go_wp2
        go_ret
        exact ⟨by rw [HF.out]; rfl, rfl⟩
      · have hzt' : (z == t) = false := by simpa using hzt
        go_wp2
        go_round
        case rel =>
          refine ⟨k + 1, by omega, by go_num, fun j hj => ?_⟩
          rcases Nat.lt_or_ge j k with h | h
          · exact HNO.out j h
          · obtain rfl : j = k := by omega
            rw [HX.out]; exact hzt
        case measure => simp [intOf]; omega
    · have HF := Lib.hid (has_miss (l := l) (n := n) (by rw [HLEN.out]; exact hn) (fun j hj => HNO.out j (by omega)))
      go_wp2
      go_ret
      exact ⟨by rw [HF.out]; rfl, rfl⟩

end Go.Proofs.YtnbllngljgmebaaDoor

/-
  What the document's Get answers: for every text of up to 1,000,000 bytes, in every world.
-/
namespace Go.Proofs.YtnbllngljgmebaaDoor
open Go.RowKit Go.Maps

set_option maxRecDepth 100000 in
set_option maxHeartbeats 6400000 in
theorem tlvrefGet_any (s : ByteArray) (w : World) (hs : s.size ≤ 1000000) :
    Calls Tryd.prog 56 #[.string s] w fun e w' => ∃ A cap, e = .returned (.tuple #[.slice A (tlvN s).2.2.length cap, .int .i64 ((tlvN s).1 : Int), .int .i64 ((tlvN s).2.1 : Int)]) ∧ Tlvs w' A (tlvN s).2.2 ∧ Below w.heap.size w w' := by
  obtain ⟨i0, hi, hz0, hz1, hz2⟩ := info_parts Tryd.infoTlv
  have HO0 : Hid ((w.alloc (.cells #[] 113)).ownsRow w.heap.size 113 2 (.slice (some ⟨w.heap.size, 0, none⟩) 0 0) 0 []) := World.ownsRow_lit w #[] 0 (Nat.le_refl _) (by unfold maxLen; omega) rfl
  go_enter Tryd.func56, Tryd.ntmps56
  go_wp2
  go_loopw [5, 6] (fun v i wr => ∃ (p : Nat) (l : List Item), p ≤ s.size ∧ i = .int .i64 (p : Int) ∧ Reads s p l ∧ wr.ownsRow w.heap.size 113 2 v l.length (itemsC l) ∧ Below w.heap.size w wr) (fun _ i _ => s.size - (intOf i).toNat)
  case atStart => exact ⟨0, [], Nat.zero_le _, rfl, reads_start s, HO0.out, below_al _ _⟩
  case round =>
    obtain ⟨p, l, hp, rfl, hR, hown, hb⟩ := hrel
    have HR := Lib.hid hR
    have HO := Lib.hid hown
    have HB := Lib.hid hb
    obtain ⟨A, cap, rfl, _⟩ := tlvs_own hown rfl
    clear hR hown hb HO0
    have hl : s.data.toList.length = s.size := by simp
    have HLP : Hid (l.length ≤ p) := by obtain ⟨k, h1, h2, h3, h4⟩ := HR.out; exact h4
    by_cases hlt : p < s.size
    · have HT := Lib.hid (fun W => trefGet_any p s W hs hp)
      unfold tgetV at HT
      have HER := Lib.hid (HR.out.err hlt)
      have HTW := Lib.hid (HR.out.twice hlt)
      have HST := Lib.hid (HR.out.step hlt)
      by_cases h1 : (tget s.data.toList p).2.2 = 0
      · obtain ⟨t1, t2, t3, t4, t5⟩ := tget_put h1
        rw [h1] at HT
        have HN := Lib.hid (fun W => berrefGet_any (tget s.data.toList p).2.1 s W hs (by omega))
        unfold bergetV at HN
        by_cases h2 : (berGet s.data.toList (tget s.data.toList p).2.1).2.2 = 0
        · obtain ⟨b1, b2, b3, b4⟩ := berGet_put h2
          rw [h2] at HN
          by_cases h3 : s.data.toList.length < (berGet s.data.toList (tget s.data.toList p).2.1).2.1 + (berGet s.data.toList (tget s.data.toList p).2.1).1
          · rw [stepG_cut h1 h2 h3] at HER
            have HE := Lib.hid (HER.out (by simp))
            rw [hl] at h3 b3
            clear HER HTW HST b2 b4 t4 t5 t1 h1 h2
            generalize (tget s.data.toList p).1 = t at *
            generalize (tget s.data.toList p).2.1 = q at *
            generalize (berGet s.data.toList q).1 = n at *
            generalize (berGet s.data.toList q).2.1 = f at *
            rw [hl] at HE
            clear hl t3
            go_wp2_with fail
            refine (HT.out _).mono ?_
            rintro e w1 ⟨rfl, hb1⟩
            have HB1 := Lib.hid (hbt HB.out hb1)
            clear hb1
            go_wp2_with fail
            refine (HN.out _).mono ?_
            rintro e w2 ⟨rfl, hb2⟩
            have HB2 := Lib.hid (hbt HB1.out hb2)
            clear hb2
            have h3' : (s.size : Int) - (f : Int) < (n : Int) := by omega
            go_wp2
            go_ret3
            exact ⟨none, 0, by rw [HE.out]; rfl, by rw [HE.out]; exact tlvs_nil _ _, HB2.out⟩
          · have hz : (stepG s.data.toList p).1 = 0 := by rw [stepG_yes h1 h2 (by omega)]
            have HTW2 := Lib.hid (HTW.out hz)
            have HST2 := Lib.hid (HST.out hz)
            have hn := stepG_next hz
            rw [stepG_yes h1 h2 (by omega)] at HTW2 HST2 hn
            dsimp only at HTW2 HST2 hn
            have HH := Lib.hid (fun W A cap h => tlvhas_any A cap l l.length ((tget s.data.toList p).1 : Int) W h (Nat.le_refl _) (by have := HLP.out; omega))
            have HHB : Hid (hasB l l.length ((tget s.data.toList p).1 : Int) = decide (((tget s.data.toList p).1 : Int) ∈ tagsOf l)) := by
              show hasB l l.length _ = _
              unfold hasB; rw [List.take_of_length_le (Nat.le_refl _)]
            rw [hl] at h3 b3 hn
            clear HER HTW HST b2 b4 t4 t5 t1 h1 h2 hz
            generalize (tget s.data.toList p).1 = t at *
            generalize (tget s.data.toList p).2.1 = q at *
            generalize (berGet s.data.toList q).1 = n at *
            generalize (berGet s.data.toList q).2.1 = f at *
            clear hl t3
            have hn1 := hn.1
            clear hn
            generalize hlen : l.length = len at *
            have HLEN := Lib.hid hlen
            have h3' : decide ((s.size : Int) - (f : Int) < (n : Int)) = false := by simp; omega
            have hfn : f + n ≤ s.size := by omega
            have hlc : len ≤ 5000000 := by have := HLP.out; omega
            have hff : f ≤ f + n := by omega
            clear hlen b1 b3 t2
            go_wp2_with fail
            refine (HT.out _).mono ?_
            rintro e w1 ⟨rfl, hb1⟩
            have HB1 := Lib.hid (hbt HB.out hb1)
            have HO1 := Lib.hid (owns_below HO.out hb1)
            clear hb1
            go_wp2_with fail
            refine (HN.out _).mono ?_
            rintro e w2 ⟨rfl, hb2⟩
            have HB2 := Lib.hid (hbt HB1.out hb2)
            have HO2 := Lib.hid (owns_below HO1.out hb2)
            clear hb2
            obtain ⟨A', cap', hv, hT⟩ := tlvs_own HO2.out HLEN.out.symm
            injection hv with hA hB hC
            subst hA
            have HTL := Lib.hid hT
            clear hT hB hC HO HO1 HT HN HB HB1
            go_wp2_with fail
            refine (HH.out _ _ cap HTL.out).mono ?_
            rintro e w3 ⟨rfl, rfl⟩
            rw [HHB.out]
            by_cases hm : (t : Int) ∈ tagsOf l
            · have HE := Lib.hid (HTW2.out hm)
              rw [decide_eq_true hm]
              clear hm HTW2 HST2
              go_wp2
              go_ret3
              exact ⟨none, 0, by rw [HE.out]; rfl, by rw [HE.out]; exact tlvs_nil _ _, HB2.out⟩
            · have HE := Lib.hid (HST2.out hm)
              rw [decide_eq_false hm]
              clear hm HTW2 HST2 HH HHB
              have HO3 := Lib.hid (HO2.out.alloc (.cells #[.int .i64 (t : Int), .string (s.extract f (f + n))] 113))
              go_wp2_with (at_builtin; refine wpList_append_lies _ rfl _ _ _ rfl w.heap.size 113 i0 _ 2 24 Tryd.underlying95 hi hz0 hz1 hz2 rfl (by omega) _ len (itemsC l) rfl HO3.out ⟨w2.heap.size, 0, none⟩ 1 1 (itemC ((t : Int), s.extract f (f + n))) rfl rfl (World.news_of_block (cs := #[.int .i64 (t : Int), .string (s.extract f (f + n))]) (t := 113) (fr := (0, 0)) (heap_alloc_new w2 _)) (by simp [itemC, Value.oneCell']) (by omega) (by unfold maxLen; omega) (by omega) (by have := HB2.out.size; simp; omega) (w2.heap.size + 1) (by simp) ?_; intro g' cap' w4 hown4 hgrow4 hat4 hlt4)
              have HO4 := Lib.hid hown4
              have HB4 := Lib.hid ((hbt HB2.out (below_al _ _)).grown hgrow4 (by have := HB2.out.size; simp; omega) (fun q hq => (HO3.out.lt q hq).1))
              clear hown4 hgrow4 hat4 hlt4
              go_wp2
              go_roundw
              case rel =>
                refine ⟨f + n, l ++ [((t : Int), s.extract f (f + n))], by omega, by go_num, HE.out, ?_, HB4.out⟩
                rw [itemsC_snoc, List.length_append, HLEN.out]; exact HO4.out
              case measure => simp [intOf]; omega
        · have hz : (stepG s.data.toList p).1 ≠ 0 := by rw [stepG_len h1 h2]; exact h2
          have HE := Lib.hid (HER.out hz)
          rw [stepG_len h1 h2] at HE
          dsimp only at HE
          have h2' : (((berGet s.data.toList (tget s.data.toList p).2.1).2.2 : Int) == 0) = false := by simp; omega
          clear HER HTW HST t4 t5 t1 h1 h2 hz hl t3
          generalize (tget s.data.toList p).1 = t at *
          generalize (tget s.data.toList p).2.1 = q at *
          generalize (berGet s.data.toList q).1 = n at *
          generalize (berGet s.data.toList q).2.1 = f at *
          generalize (berGet s.data.toList q).2.2 = b at *
          go_wp2_with fail
          refine (HT.out _).mono ?_
          rintro e w1 ⟨rfl, hb1⟩
          have HB1 := Lib.hid (hbt HB.out hb1)
          clear hb1
          go_wp2_with fail
          refine (HN.out _).mono ?_
          rintro e w2 ⟨rfl, hb2⟩
          have HB2 := Lib.hid (hbt HB1.out hb2)
          clear hb2
          go_wp2
          go_ret3
          exact ⟨none, 0, by rw [HE.out]; rfl, by rw [HE.out]; exact tlvs_nil _ _, HB2.out⟩
      · have hz : (stepG s.data.toList p).1 ≠ 0 := by rw [stepG_tag h1]; exact h1
        have HE := Lib.hid (HER.out hz)
        rw [stepG_tag h1] at HE
        dsimp only at HE
        have h2' : (((tget s.data.toList p).2.2 : Int) == 0) = false := by simp; omega
        clear HER HTW HST h1 hz hl
        generalize (tget s.data.toList p).1 = t at *
        generalize (tget s.data.toList p).2.1 = q at *
        generalize (tget s.data.toList p).2.2 = b at *
        go_wp2_with fail
        refine (HT.out _).mono ?_
        rintro e w1 ⟨rfl, hb1⟩
        have HB1 := Lib.hid (hbt HB.out hb1)
        clear hb1
        go_wp2
        go_ret3
        exact ⟨none, 0, by rw [HE.out]; rfl, by rw [HE.out]; exact tlvs_nil _ _, HB1.out⟩
    · have HE := Lib.hid (HR.out.done (by omega))
      obtain ⟨A', cap', hv, hT⟩ := tlvs_own HO.out rfl
      injection hv with hA hB hC
      subst hA
      have HT := Lib.hid hT
      clear hT HO hB hC hl
      go_wp2
      go_ret3
      exact ⟨A, cap, by rw [HE.out]; rfl, by rw [HE.out]; exact HT.out, HB.out⟩

end Go.Proofs.YtnbllngljgmebaaDoor
