/-
  Classes of bytes, over numbers alone: kinds of bytes, classes as sums of kinds, the first byte that is not of a class, which class is the wider one.
-/
import Derived.Test.YtbclaiaadeecfaaDoorRows
namespace Go.Proofs.YtbclaiaadeecfaaDoor

/-- The kind of a byte: 1 digit, 2 letter, 4 another sign, 8 none of these. -/
def kd (n : Nat) : Nat := if 48 ≤ n ∧ n ≤ 57 then 1 else if (65 ≤ n ∧ n ≤ 90) ∨ (97 ≤ n ∧ n ≤ 122) then 2 else if 32 ≤ n ∧ n ≤ 126 then 4 else 8
/-- The kinds that a class has. -/
def ks (c : Nat) : Nat := [0, 1, 2, 3, 7, 15, 15].getD c 0
def isC (c : Int) : Bool := decide (0 < c) && decide (c ≤ 6)
/-- Is the byte n of the class c? -/
def isO (c : Int) (n : Nat) : Bool := isC c && ((ks c.toNat) &&& (kd n) != 0)

theorem isC_iff {c : Int} : isC c = true ↔ 0 < c ∧ c ≤ 6 := by simp [isC]
theorem isC_false {c : Int} : isC c = false ↔ c ≤ 0 ∨ 6 < c := by
  cases h : isC c
  · simp [isC] at h; simp; omega
  · rw [isC_iff] at h; simp; omega
theorem isO_no {c : Int} (h : isC c = false) (n : Nat) : isO c n = false := by simp [isO, h]
theorem isC_cases {c : Int} (h : isC c = true) : ∃ k : Nat, k < 7 ∧ 0 < k ∧ c = (k : Int) := by
  rw [isC_iff] at h
  exact ⟨c.toNat, by omega, by omega, by omega⟩
theorem kd_cases (n : Nat) : kd n = 1 ∨ kd n = 2 ∨ kd n = 4 ∨ kd n = 8 := by
  unfold kd
  repeat' split
  all_goals simp
theorem isO_at {k : Nat} (h : k < 7) (h0 : 0 < k) (n : Nat) : isO (k : Int) n = ((ks k) &&& (kd n) != 0) := by
  have : isC (k : Int) = true := isC_iff.2 (by omega)
  simp [isO, this]

/-- Which class is the wider one: by all bytes. -/
def wid (a b : Int) : Bool := isC a && isC b && (List.range 256).all fun j => !isO b j || isO a j
/-- By kinds. -/
def widK (a b : Nat) : Bool := (ks b) &&& (15 - ks a) == 0
theorem wid_no_a {a b : Int} (h : isC a = false) : wid a b = false := by simp [wid, h]
theorem wid_no_b {a b : Int} (h : isC b = false) : wid a b = false := by simp [wid, h]
theorem wid_at : ∀ a : Nat, a < 7 → 0 < a → ∀ b : Nat, b < 7 → 0 < b → wid (a : Int) (b : Int) = widK a b := by decide +kernel
theorem wid_bad {a b : Int} {j : Nat} (hj : j < 256) (h1 : isO b j = true) (h2 : isO a j = false) : wid a b = false := by
  unfold wid
  rw [Bool.and_eq_false_iff]
  right
  rw [List.all_eq_false]
  exact ⟨j, by simp [hj], by simp [h1, h2]⟩
theorem wid_all {a b : Int} (ha : isC a = true) (hb : isC b = true) (h : ∀ j, j < 256 → isO b j = true → isO a j = true) : wid a b = true := by
  unfold wid
  rw [ha, hb]
  simp only [Bool.true_and, List.all_eq_true, List.mem_range]
  intro j hj
  have := h j hj
  cases e : isO b j
  · rfl
  · rw [this e]; rfl
theorem wid_keeps {a b : Int} (h : wid a b = true) {j : Nat} (hj : j < 256) (h1 : isO b j = true) : isO a j = true := by
  cases e : isO a j
  · rw [wid_bad hj h1 e] at h; cases h
  · rfl

/-- The place of the first byte that is not of the class, from i on; -1. -/
def fst (c : Int) (l : List UInt8) : Int := if l.all (fun x => isO c x.toNat) then -1 else ((l.findIdx fun x => !isO c x.toNat : Nat) : Int)
theorem fst_all {c : Int} {l : List UInt8} (h : l.all (fun x => isO c x.toNat) = true) : fst c l = -1 := by simp [fst, h]
theorem fst_at {c : Int} {l : List UInt8} {k : Nat} (hk : k < l.length) (ha : (l.take k).all (fun x => isO c x.toNat) = true) (hb : isO c l[k].toNat = false) : fst c l = (k : Int) := by
  have hn : l.all (fun x => isO c x.toNat) = false := by
    rw [List.all_eq_false]
    exact ⟨l[k], List.getElem_mem hk, by simp [hb]⟩
  have hi : (l.findIdx fun x => !isO c x.toNat) = k := by
    rw [List.findIdx_eq hk]
    refine ⟨by simp [hb], fun j hj => ?_⟩
    rw [List.all_eq_true] at ha
    have := ha l[j] (by rw [List.mem_take_iff_getElem]; exact ⟨j, by omega, rfl⟩)
    simp [this]
  simp [fst, hn, hi]
theorem fst_cases (c : Int) (l : List UInt8) : (fst c l = -1 ∧ l.all (fun x => isO c x.toNat) = true) ∨ ∃ k : Nat, ∃ h : k < l.length, fst c l = (k : Int) ∧ (l.take k).all (fun x => isO c x.toNat) = true ∧ isO c l[k].toNat = false := by
  cases e : l.all (fun x => isO c x.toNat)
  · right
    have hx : ∃ x ∈ l, (fun x : UInt8 => !isO c x.toNat) x = true := by
      rw [List.all_eq_false] at e
      obtain ⟨x, hx, h⟩ := e
      exact ⟨x, hx, by simpa using h⟩
    have hl := List.findIdx_lt_length_of_exists hx
    refine ⟨l.findIdx fun x => !isO c x.toNat, hl, by simp [fst, e], ?_, ?_⟩
    · rw [List.all_eq_true]
      intro x hx
      rw [List.mem_take_iff_getElem] at hx
      obtain ⟨j, hj, rfl⟩ := hx
      have := List.not_of_lt_findIdx (p := fun x : UInt8 => !isO c x.toNat) (xs := l) (i := j) (by omega)
      simpa using this
    · have := List.findIdx_getElem (w := hl)
      simpa using this
  · exact .inl ⟨fst_all e, rfl⟩
theorem fst_append_yes {c : Int} {l m : List UInt8} (h : fst c l = -1) : fst c (l ++ m) = if fst c m = -1 then -1 else (l.length : Int) + fst c m := by
  have hl : l.all (fun x => isO c x.toNat) = true := by
    rcases fst_cases c l with ⟨_, h⟩ | ⟨k, _, hk, _⟩
    · exact h
    · omega
  rcases fst_cases c m with ⟨hm, ha⟩ | ⟨k, hk, hm, ht, hb⟩
  · rw [if_pos hm]
    exact fst_all (by rw [List.all_append, hl, ha]; rfl)
  · rw [if_neg (by omega), hm]
    have := fst_at (c := c) (l := l ++ m) (k := l.length + k) (by simp [hk]) (by rw [List.take_length_add_append, List.all_append, hl, ht]; rfl) (by
      rw [List.getElem_append_right (by omega)]
      simpa using hb)
    rw [this]
    omega
theorem fst_append_no {c : Int} {l m : List UInt8} (h : fst c l ≠ -1) : fst c (l ++ m) = fst c l := by
  rcases fst_cases c l with ⟨h', _⟩ | ⟨k, hk, e, ht, hb⟩
  · exact absurd h' h
  · rw [e]
    refine fst_at (by simp; omega) ?_ ?_
    · rw [List.take_append_of_le_length (by omega)]; exact ht
    · rw [List.getElem_append_left hk]; exact hb
theorem fst_keeps {a b : Int} {l : List UInt8} (hw : wid a b = true) (h : fst b l < 0) : fst a l = -1 := by
  rcases fst_cases b l with ⟨_, hb⟩ | ⟨k, _, e, _⟩
  · refine fst_all ?_
    rw [List.all_eq_true] at hb ⊢
    exact fun x hx => wid_keeps hw x.toNat_lt (hb x hx)
  · omega
theorem fst_ge (c : Int) (l : List UInt8) : -1 ≤ fst c l := by
  rcases fst_cases c l with ⟨h, _⟩ | ⟨k, _, h, _⟩ <;> omega
theorem fst_lt (c : Int) (l : List UInt8) : fst c l < (l.length : Int) := by
  rcases fst_cases c l with ⟨h, _⟩ | ⟨k, _, h, _⟩ <;> omega

end Go.Proofs.YtbclaiaadeecfaaDoor
