/-
  Schemas, over lists of specs alone: what is wrong with one, which spec a field has, which numbers there are, which specs are left. (Plain functions.)
-/
import Derived.Test.YtbclaiaadeecfaaDoorSpcKey
import Derived.Test.YtbclaiaadeecfaaDoorFldMath
namespace Go.Proofs.YtbclaiaadeecfaaDoor
open Go.Lib

abbrev Sp := Int × Int × Int × Int × Int
def noSp : Sp := (0, 0, 0, 0, 0)
def spAt (l : List Sp) (i : Nat) : Sp := l.getD i noSp
def spkS (x : Sp) : Int := spk x.1 x.2.1 x.2.2.1 x.2.2.2.1 x.2.2.2.2
def nosOf (l : List Sp) : List Int := l.map Prod.fst

theorem spAt_get {l : List Sp} {i : Nat} (h : i < l.length) : spAt l i = l[i] := by simp [spAt, List.getD, h]
theorem spAt_zero (x : Sp) (r : List Sp) : spAt (x :: r) 0 = x := rfl
theorem spAt_succ (x : Sp) (r : List Sp) (i : Nat) : spAt (x :: r) (i + 1) = spAt r i := by simp [spAt, List.getD]
theorem drop_sp {l : List Sp} {k : Nat} (h : k < l.length) : l.drop k = spAt l k :: l.drop (k + 1) := by rw [spAt_get h]; exact List.drop_eq_getElem_cons h
theorem take_sp {l : List Sp} {k : Nat} (h : k < l.length) : l.take (k + 1) = l.take k ++ [spAt l k] := by rw [spAt_get h, List.take_succ_eq_append_getElem h]
theorem drop_end {l : List Sp} {k : Nat} (h : l.length ≤ k) : l.drop k = [] := List.drop_eq_nil_of_le h
theorem nos_snoc (l : List Sp) (x : Sp) : nosOf (l ++ [x]) = nosOf l ++ [x.1] := by simp [nosOf]
theorem nos_length (l : List Sp) : (nosOf l).length = l.length := by simp [nosOf]

/-- What is wrong with a list of specs, from the place i on, behind the number last. -/
def schL : Int → Nat → List Sp → Int × Int
  | _, _, [] => (0, 0)
  | last, i, x :: r => if spkS x ≠ 0 then (spkS x, (i : Int)) else if x.1 ≤ last then (11, (i : Int)) else schL x.1 (i + 1) r
theorem schL_bad {last : Int} {i : Nat} {x : Sp} {r : List Sp} (h : spkS x ≠ 0) : schL last i (x :: r) = (spkS x, (i : Int)) := by rw [schL, if_pos h]
theorem schL_order {last : Int} {i : Nat} {x : Sp} {r : List Sp} (h : spkS x = 0) (h2 : x.1 ≤ last) : schL last i (x :: r) = (11, (i : Int)) := by rw [schL, if_neg (by simp [h]), if_pos h2]
theorem schL_ok {last : Int} {i : Nat} {x : Sp} {r : List Sp} (h : spkS x = 0) (h2 : ¬ x.1 ≤ last) : schL last i (x :: r) = schL x.1 (i + 1) r := by rw [schL, if_neg (by simp [h]), if_neg h2]
/-- What is wrong with a schema, and with which of its specs. -/
def schN (st v : Int) (l : List Sp) : Int × Int := if st ≠ 1 ∧ st ≠ 2 then (1, -1) else if v < 0 ∨ 9 < v then (7, -1) else schL 0 0 l
theorem schN_style {st v : Int} {l : List Sp} (h : st ≠ 1 ∧ st ≠ 2) : schN st v l = (1, -1) := by unfold schN; rw [if_pos h]
theorem schN_version {st v : Int} {l : List Sp} (h : ¬ (st ≠ 1 ∧ st ≠ 2)) (h2 : v < 0 ∨ 9 < v) : schN st v l = (7, -1) := by unfold schN; rw [if_neg h, if_pos h2]
theorem schN_list {st v : Int} {l : List Sp} (h : ¬ (st ≠ 1 ∧ st ≠ 2)) (h2 : ¬ (v < 0 ∨ 9 < v)) : schN st v l = schL 0 0 l := by unfold schN; rw [if_neg h, if_neg h2]

/-- Right specs, by rising numbers. -/
def Rise : Int → List Sp → Prop
  | _, [] => True
  | last, x :: r => spkS x = 0 ∧ last < x.1 ∧ Rise x.1 r
theorem schL_zero : ∀ (l : List Sp) (last : Int) (i : Nat), (schL last i l).1 = 0 ↔ Rise last l
  | [], last, i => by simp [schL, Rise]
  | x :: r, last, i => by
    by_cases h : spkS x = 0
    · by_cases h2 : x.1 ≤ last
      · rw [schL_order h h2]
        simp only [Rise]
        constructor
        · intro e; exact absurd e (by decide)
        · intro e; omega
      · rw [schL_ok h h2, schL_zero r x.1 (i + 1)]
        simp only [Rise]
        constructor
        · intro e; exact ⟨h, by omega, e⟩
        · intro e; exact e.2.2
    · rw [schL_bad h]
      simp only [Rise]
      constructor
      · intro e; exact absurd e h
      · intro e; exact absurd e.1 h
theorem Rise.weak : ∀ {l : List Sp} {a b : Int}, Rise a l → b ≤ a → Rise b l
  | [], _, _, _, _ => trivial
  | _ :: _, _, _, h, hb => ⟨h.1, by have := h.2.1; omega, h.2.2⟩
theorem Rise.filter (p : Sp → Bool) : ∀ {l : List Sp} {a : Int}, Rise a l → Rise a (l.filter p)
  | [], _, _ => trivial
  | x :: r, a, h => by
    rw [List.filter_cons]
    split
    · exact ⟨h.1, h.2.1, Rise.filter p h.2.2⟩
    · exact (Rise.filter p h.2.2).weak (by have := h.2.1; omega)
theorem right_filter {st v : Int} {l : List Sp} (p : Sp → Bool) (h : (schN st v l).1 = 0) : (schN st v (l.filter p)).1 = 0 := by
  by_cases h1 : st ≠ 1 ∧ st ≠ 2
  · rw [schN_style h1] at h; exact absurd h (by decide)
  by_cases h2 : v < 0 ∨ 9 < v
  · rw [schN_version h1 h2] at h; exact absurd h (by decide)
  rw [schN_list h1 h2] at h ⊢
  rw [schL_zero] at h ⊢
  exact h.filter p
theorem right_rise {st v : Int} {l : List Sp} (h : (schN st v l).1 = 0) : Rise 0 l := by
  by_cases h1 : st ≠ 1 ∧ st ≠ 2
  · rw [schN_style h1] at h; exact absurd h (by decide)
  by_cases h2 : v < 0 ∨ 9 < v
  · rw [schN_version h1 h2] at h; exact absurd h (by decide)
  rw [schN_list h1 h2, schL_zero] at h
  exact h
theorem Rise.above : ∀ {l : List Sp} {a : Int}, Rise a l → ∀ x ∈ l, a < x.1
  | [], _, _, x, hx => by simp at hx
  | y :: r, a, h, x, hx => by
    rcases List.mem_cons.1 hx with rfl | hx
    · exact h.2.1
    · have := Rise.above h.2.2 x hx
      have := h.2.1
      omega
theorem Rise.right : ∀ {l : List Sp} {a : Int}, Rise a l → ∀ x ∈ l, spkS x = 0
  | [], _, _, x, hx => by simp at hx
  | y :: r, a, h, x, hx => by
    rcases List.mem_cons.1 hx with rfl | hx
    · exact h.1
    · exact Rise.right h.2.2 x hx
theorem spk_no {n c f lo hi : Int} (h : spk n c f lo hi = 0) : 2 ≤ n ∧ n ≤ 128 := by
  by_cases h1 : n < 2 ∨ 128 < n
  · rw [spk_arg h1] at h; exact absurd h (by decide)
  · omega
theorem Rise.most {l : List Sp} {a : Int} (h : Rise a l) : ∀ x ∈ l, 2 ≤ x.1 ∧ x.1 ≤ 128 := fun x hx => spk_no (h.right x hx)

/-- Which spec a field has: its place; -1: none. -/
def fndI (no : Int) : Nat → List Sp → Int
  | _, [] => -1
  | i, x :: r => if x.1 = no then (i : Int) else fndI no (i + 1) r
/-- The spec itself. -/
def fndP (no : Int) : List Sp → Sp × Bool
  | [] => (noSp, false)
  | x :: r => if x.1 = no then (x, true) else fndP no r
theorem fndI_hit {no : Int} {i : Nat} {x : Sp} {r : List Sp} (h : x.1 = no) : fndI no i (x :: r) = (i : Int) := by rw [fndI, if_pos h]
theorem fndI_miss {no : Int} {i : Nat} {x : Sp} {r : List Sp} (h : x.1 ≠ no) : fndI no i (x :: r) = fndI no (i + 1) r := by rw [fndI, if_neg h]
theorem fndP_hit {no : Int} {x : Sp} {r : List Sp} (h : x.1 = no) : fndP no (x :: r) = (x, true) := by rw [fndP, if_pos h]
theorem fndP_miss {no : Int} {x : Sp} {r : List Sp} (h : x.1 ≠ no) : fndP no (x :: r) = fndP no r := by rw [fndP, if_neg h]
theorem fnd_rel (no : Int) : ∀ (l : List Sp) (i : Nat), (fndP no l = (noSp, false) ∧ fndI no i l = -1) ∨ (∃ k, k < l.length ∧ fndI no i l = ((i + k : Nat) : Int) ∧ fndP no l = (spAt l k, true))
  | [], i => .inl ⟨rfl, rfl⟩
  | x :: r, i => by
    by_cases h : x.1 = no
    · exact .inr ⟨0, by simp, by rw [fndI_hit h]; rfl, by rw [fndP_hit h]; rfl⟩
    · rw [fndI_miss h, fndP_miss h]
      rcases fnd_rel no r (i + 1) with h1 | ⟨k, h1, h2, h3⟩
      · exact .inl h1
      · exact .inr ⟨k + 1, by simp; omega, by rw [h2]; congr 1; omega, by rw [h3, spAt_succ]⟩
theorem Rise.find : ∀ {l : List Sp} {a : Int}, Rise a l → ∀ k, k < l.length → fndP (spAt l k).1 l = (spAt l k, true)
  | [], _, _, k, hk => by simp at hk
  | x :: r, a, h, 0, _ => fndP_hit rfl
  | x :: r, a, h, k + 1, hk => by
    have hk' : k < r.length := by simpa using hk
    have hab := Rise.above h.2.2 (spAt r k) (by rw [spAt_get hk']; exact List.getElem_mem hk')
    rw [spAt_succ, fndP_miss (by omega)]
    exact Rise.find h.2.2 k hk'

/-- How many numbers a set of rising ones has. -/
def RiseI : Int → List Int → Prop
  | _, [] => True
  | a, x :: r => a < x ∧ RiseI x r
theorem RiseI.above : ∀ {l : List Int} {a : Int}, RiseI a l → ∀ x ∈ l, a < x
  | [], _, _, x, hx => by simp at hx
  | y :: r, a, h, x, hx => by
    rcases List.mem_cons.1 hx with rfl | hx
    · exact h.1
    · have := RiseI.above h.2 x hx
      have := h.1
      omega
theorem Rise.nos : ∀ {l : List Sp} {a : Int}, Rise a l → RiseI a (nosOf l)
  | [], _, _ => trivial
  | _ :: _, _, h => ⟨h.2.1, Rise.nos h.2.2⟩
theorem count_rise : ∀ (d a : Nat) (l : List Int), RiseI ((a : Int) - 1) l → (∀ x ∈ l, x < ((a + d : Nat) : Int)) → ((List.range' a d).filter (fun k : Nat => decide ((k : Int) ∈ l))).length = l.length
  | 0, a, [], _, _ => by simp
  | 0, a, x :: r, h1, h2 => by
    have := h1.1
    have := h2 x (by simp)
    omega
  | d + 1, a, [], _, _ => by simp
  | d + 1, a, x :: r, h1, h2 => by
    have hx := h1.1
    rw [List.range'_succ, List.filter_cons]
    by_cases e : x = (a : Int)
    · have hm : decide ((a : Int) ∈ x :: r) = true := by simp [e]
      rw [if_pos hm, List.length_cons, List.length_cons]
      congr 1
      have ih := count_rise d (a + 1) r (by rw [show ((a + 1 : Nat) : Int) - 1 = x by omega]; exact h1.2) (fun y hy => by have := h2 y (by simp [hy]); omega)
      rw [← ih]
      congr 1
      apply List.filter_congr
      intro k hk
      rw [List.mem_range'_1] at hk
      have hk2 : (k : Int) ≠ x := by omega
      simp [hk2]
    · have hm : ¬ decide ((a : Int) ∈ x :: r) = true := by
        intro hc
        have hc := of_decide_eq_true hc
        rcases List.mem_cons.1 hc with h | h
        · omega
        · have := RiseI.above h1.2 _ h
          omega
      rw [if_neg hm]
      exact count_rise d (a + 1) (x :: r) ⟨by omega, h1.2⟩ (fun y hy => by have := h2 y hy; omega)
theorem rise_len {l : List Sp} (h : Rise 0 l) : onesCount (ofH (nosOf l)) + onesCount (ofL (nosOf l)) = l.length := by
  rw [← listN_len, ← nos_length l, ← count_rise 128 1 (nosOf l) h.nos (fun x hx => by
    simp only [nosOf, List.mem_map] at hx
    obtain ⟨y, hy, rfl⟩ := hx
    have := h.most y hy
    omega)]
  unfold listN
  congr 1
  apply List.filter_congr
  intro k hk
  rw [List.mem_range'_1] at hk
  rw [has_of, decide_eq_decide]
  exact ⟨fun e => e.1, fun e => ⟨e, by omega, by omega⟩⟩
theorem rise_all {l : List Sp} (h : Rise 0 l) : l.filter (fun x => hasN (ofH (nosOf l)) (ofL (nosOf l)) x.1) = l := by
  apply List.filter_eq_self.2
  intro x hx
  have := h.most x hx
  rw [has_of]
  exact decide_eq_true ⟨List.mem_map_of_mem hx, by omega, by omega⟩

/-- The specs that are left. -/
def keepL (h lo : Nat) (l : List Sp) : List Sp := l.filter (fun x => hasN h lo x.1)
theorem keep_snoc (h lo : Nat) (l : List Sp) (x : Sp) : keepL h lo (l ++ [x]) = keepL h lo l ++ (if hasN h lo x.1 = true then [x] else []) := by
  unfold keepL
  rw [List.filter_append, List.filter_cons, List.filter_nil]
theorem keep_length (h lo : Nat) (l : List Sp) : (keepL h lo l).length ≤ l.length := List.length_filter_le _ _
theorem keep_part (h lo : Nat) (l : List Sp) (k : Nat) : (keepL h lo (l.take k)).length ≤ l.length := Nat.le_trans (keep_length _ _ _) (by simp; omega)
theorem of_nos {l : List Sp} {k : Nat} (hk : k < l.length) : ofH (nosOf (l.take (k + 1))) = ofH (nosOf (l.take k)) ||| aH (spAt l k).1 ∧ ofL (nosOf (l.take (k + 1))) = ofL (nosOf (l.take k)) ||| aL (spAt l k).1 := by
  rw [take_sp hk, nos_snoc]
  exact of_snoc _ _

theorem sp_ext {l m : List Sp} (hlen : l.length = m.length) (h : ∀ j, j < l.length → spAt l j = spAt m j) : l = m := by
  apply List.ext_getElem hlen
  intro i h1 h2
  have := h i h1
  rw [spAt_get h1, spAt_get h2] at this
  exact this
/-- Are two schemas the same? -/
def sameS (st v : Int) (l : List Sp) (st' v' : Int) (l' : List Sp) : Bool := decide (st = st' ∧ v = v' ∧ l = l')
theorem same_comm (st v : Int) (l : List Sp) (st' v' : Int) (l' : List Sp) : sameS st v l st' v' l' = sameS st' v' l' st v l := by
  unfold sameS
  rw [decide_eq_decide]
  constructor
  · rintro ⟨h1, h2, h3⟩; exact ⟨h1.symm, h2.symm, h3.symm⟩
  · rintro ⟨h1, h2, h3⟩; exact ⟨h1.symm, h2.symm, h3.symm⟩
theorem same_refl (st v : Int) (l : List Sp) : sameS st v l st v l = true := by simp [sameS]

end Go.Proofs.YtbclaiaadeecfaaDoor
