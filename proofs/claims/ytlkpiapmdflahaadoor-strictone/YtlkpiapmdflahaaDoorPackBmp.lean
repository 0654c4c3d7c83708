/-
  Texts of one family, laid together: BmpMath, BmpSmall, BmpRead, BmpEq, BmpGet, BmpGets, BmpPart, BmpRefGet, BmpRefGets, BmpAny, BmpTurn, BmpPut.
-/
import Derived.Test.YtlkpiapmdflahaaDoorFldMath
import Derived.Test.YtlkpiapmdflahaaDoorPackHex
import Derived.Test.YtlkpiapmdflahaaDoorPackBase
import Derived.Test.YtlkpiapmdflahaaDoorPackFld
import Derived.Lib.BufferWrite
import Derived.Laws.CopyOwn
import Derived.ChangeKeysEq
import Derived.Deep.AppendLies
import Derived.Laws.OwnMore

/-
  Bitmaps: eight bytes and numbers of 64 bits; plain arithmetic, no program.
-/
namespace Go.Proofs.YtlkpiapmdflahaaDoor

/-- A number's byte, counted from the right; its eight bytes, the highest one first; the number whose bytes these are. -/
def byN (x i : Nat) : Nat := x / 2 ^ (8 * i) % 256
def halfL (x : Nat) : List UInt8 := (List.range 8).map fun j => UInt8.ofNat (byN x (7 - j))
def bnumL (l : List UInt8) : Nat := l.foldl (fun n b => n * 256 + b.toNat) 0

theorem byN_lt (x i : Nat) : byN x i < 256 := Nat.mod_lt _ (by decide)
theorem halfL_len (x : Nat) : (halfL x).length = 8 := by simp [halfL]
theorem bnumL_snoc (l : List UInt8) (b : UInt8) : bnumL (l ++ [b]) = bnumL l * 256 + b.toNat := by simp [bnumL]
theorem eight {α : Type} {l : List α} (h : l.length = 8) : ∃ a b c d e f g i, l = [a, b, c, d, e, f, g, i] := by
  match l, h with
  | [a, b, c, d, e, f, g, i], _ => exact ⟨a, b, c, d, e, f, g, i, rfl⟩
theorem bnumL_lt {l : List UInt8} (h : l.length = 8) : bnumL l < M64 := by
  obtain ⟨a, b, c, d, e, f, g, i, rfl⟩ := eight h
  have := a.toNat_lt; have := b.toNat_lt; have := c.toNat_lt; have := d.toNat_lt
  have := e.toNat_lt; have := f.toNat_lt; have := g.toNat_lt; have := i.toNat_lt
  simp only [bnumL, List.foldl]
  unfold M64
  omega
theorem of_byN (x i : Nat) : (UInt8.ofNat (byN x i)).toNat = byN x i := by
  rw [UInt8.toNat_ofNat', Nat.mod_eq_of_lt (byN_lt x i)]
theorem byN_step (x i : Nat) : x / 2 ^ (8 * (i + 1)) * 256 + byN x i = x / 2 ^ (8 * i) := by
  unfold byN
  rw [show 8 * (i + 1) = 8 * i + 8 by omega, Nat.pow_add, ← Nat.div_div_eq_div_mul]
  omega
theorem halfL_eq (x : Nat) : halfL x = [UInt8.ofNat (byN x 7), UInt8.ofNat (byN x 6), UInt8.ofNat (byN x 5), UInt8.ofNat (byN x 4), UInt8.ofNat (byN x 3), UInt8.ofNat (byN x 2), UInt8.ofNat (byN x 1), UInt8.ofNat (byN x 0)] := rfl
theorem numL_halfL {x : Nat} (h : x < M64) : bnumL (halfL x) = x := by
  rw [halfL_eq]
  simp only [bnumL, List.foldl, of_byN]
  have e7 := byN_step x 7
  rw [show x / 2 ^ (8 * (7 + 1)) = 0 from Nat.div_eq_of_lt h] at e7
  rw [e7, byN_step x 6, byN_step x 5, byN_step x 4, byN_step x 3, byN_step x 2, byN_step x 1, byN_step x 0]
  simp
theorem numL_inj {l m : List UInt8} (h : l.length = 8) (h' : m.length = 8) (e : bnumL l = bnumL m) : l = m := by
  obtain ⟨a, b, c, d, e', f, g, i, rfl⟩ := eight h
  obtain ⟨a', b', c', d', e'', f', g', i', rfl⟩ := eight h'
  have := a.toNat_lt; have := b.toNat_lt; have := c.toNat_lt; have := d.toNat_lt
  have := e'.toNat_lt; have := f.toNat_lt; have := g.toNat_lt; have := i.toNat_lt
  have := a'.toNat_lt; have := b'.toNat_lt; have := c'.toNat_lt; have := d'.toNat_lt
  have := e''.toNat_lt; have := f'.toNat_lt; have := g'.toNat_lt; have := i'.toNat_lt
  simp only [bnumL, List.foldl] at e
  have k8 : i.toNat = i'.toNat := by omega
  have k7 : g.toNat = g'.toNat := by omega
  have k6 : f.toNat = f'.toNat := by omega
  have k5 : e'.toNat = e''.toNat := by omega
  have k4 : d.toNat = d'.toNat := by omega
  have k3 : c.toNat = c'.toNat := by omega
  have k2 : b.toNat = b'.toNat := by omega
  have k1 : a.toNat = a'.toNat := by omega
  rw [UInt8.toNat_inj.1 k1, UInt8.toNat_inj.1 k2, UInt8.toNat_inj.1 k3, UInt8.toNat_inj.1 k4, UInt8.toNat_inj.1 k5, UInt8.toNat_inj.1 k6, UInt8.toNat_inj.1 k7, UInt8.toNat_inj.1 k8]
theorem halfL_numL {l : List UInt8} (h : l.length = 8) : halfL (bnumL l) = l :=
  numL_inj (halfL_len _) h (numL_halfL (bnumL_lt h))
theorem halfL_inj {x y : Nat} (h : x < M64) (h' : y < M64) (e : halfL x = halfL y) : x = y := by
  rw [← numL_halfL h, e, numL_halfL h']

/-- One bit of eight bytes, counted from the left. -/
def bitL (l : List UInt8) (m : Nat) : Bool := (l.getD (m / 8) 0).toNat.testBit (7 - m % 8)
theorem numL_cut (l : List UInt8) : ∀ k, k ≤ l.length → bnumL (l.take k) = bnumL l / 256 ^ (l.length - k) := by
  intro k hk
  induction h : l.length - k generalizing k with
  | zero =>
    have : k = l.length := by omega
    subst this
    simp
  | succ n ih =>
    have e := ih (k + 1) (by omega) (by omega)
    rw [List.take_succ_eq_append_getElem (by omega), bnumL_snoc] at e
    have := l[k].toNat_lt
    rw [Nat.pow_succ, ← Nat.div_div_eq_div_mul, ← e]
    omega
theorem bitL_num {l : List UInt8} (h : l.length = 8) {m : Nat} (hm : m < 64) : bitL l m = (bnumL l).testBit (63 - m) := by
  have hk : m / 8 < l.length := by omega
  have e := numL_cut l (m / 8 + 1) (by omega)
  rw [List.take_succ_eq_append_getElem hk, bnumL_snoc, h] at e
  unfold bitL
  rw [show l.getD (m / 8) 0 = l[m / 8] by simp [List.getD, hk]]
  have hb := l[m / 8].toNat_lt
  have e2 : l[m / 8].toNat = bnumL l / 2 ^ (8 * (7 - m / 8)) % 2 ^ 8 := by
    rw [Nat.pow_mul, show (2 : Nat) ^ 8 = 256 from rfl, show 7 - m / 8 = 8 - (m / 8 + 1) by omega, ← e]
    omega
  rw [e2, Nat.testBit_mod_two_pow, Nat.testBit_div_two_pow, decide_eq_true (by omega), Bool.true_and]
  congr 1
  omega

/-- The numbers that the bits of bytes stand for, from one on. -/
def partL (l : List UInt8) (f : Nat) (m : Nat) : List Nat := ((List.range m).filter (bitL l)).map (f + ·)
theorem partL_succ (l : List UInt8) (f m : Nat) : partL l f (m + 1) = partL l f m ++ (if bitL l m = true then [f + m] else []) := by
  unfold partL
  rw [List.range_succ, List.filter_append, List.map_append]
  congr 1
  simp only [List.filter_cons, List.filter_nil]
  split <;> simp
theorem partL_len (l : List UInt8) (f m : Nat) : (partL l f m).length ≤ m := by
  unfold partL
  rw [List.length_map]
  exact Nat.le_trans (List.length_filter_le _ _) (by simp)
theorem partL_mem (l : List UInt8) (f m n : Nat) : n ∈ partL l f m ↔ f ≤ n ∧ n < f + m ∧ bitL l (n - f) = true := by
  unfold partL
  rw [List.mem_map]
  constructor
  · rintro ⟨k, hk, rfl⟩
    rw [List.mem_filter, List.mem_range] at hk
    exact ⟨by omega, by omega, by rw [show f + k - f = k by omega]; exact hk.2⟩
  · rintro ⟨h1, h2, h3⟩
    exact ⟨n - f, by rw [List.mem_filter, List.mem_range]; exact ⟨by omega, h3⟩, by omega⟩
/-- All but the first bit's. -/
def restL (l : List UInt8) (f : Nat) : List Nat := ((List.range' 1 63).filter (bitL l)).map (f + ·)
theorem partL_cons (l : List UInt8) (f : Nat) : partL l f 64 = (if bitL l 0 = true then [f] else []) ++ restL l f := by
  unfold partL restL
  rw [show List.range 64 = 0 :: List.range' 1 63 from by decide +kernel, List.filter_cons]
  split <;> simp
theorem restL_mem (l : List UInt8) (f n : Nat) : n ∈ restL l f ↔ f + 1 ≤ n ∧ n < f + 64 ∧ bitL l (n - f) = true := by
  unfold restL
  rw [List.mem_map]
  constructor
  · rintro ⟨k, hk, rfl⟩
    rw [List.mem_filter, List.mem_range'_1] at hk
    exact ⟨by omega, by omega, by rw [show f + k - f = k by omega]; exact hk.2⟩
  · rintro ⟨h1, h2, h3⟩
    exact ⟨n - f, by rw [List.mem_filter, List.mem_range'_1]; exact ⟨by omega, h3⟩, by omega⟩
theorem restL_len (l : List UInt8) (f : Nat) : (restL l f).length ≤ 63 := by
  unfold restL
  rw [List.length_map]
  exact Nat.le_trans (List.length_filter_le _ _) (by simp)

/-- One bit of a byte, by what is left of it. -/
theorem bit_step (c k : Nat) (_hc : c < 256) (hk : k < 8) : (c % 2 ^ (8 - k) < 256 ∧ 128 / 2 ^ k < 256 ∧ 1 ≤ 128 / 2 ^ k) ∧ 128 / 2 ^ k / 2 = 128 / 2 ^ (k + 1) ∧
    (c.testBit (7 - k) = true → 128 / 2 ^ k ≤ c % 2 ^ (8 - k) ∧ c % 2 ^ (8 - k) - 128 / 2 ^ k = c % 2 ^ (8 - (k + 1))) ∧ (c.testBit (7 - k) = false → c % 2 ^ (8 - k) < 128 / 2 ^ k ∧ c % 2 ^ (8 - k) = c % 2 ^ (8 - (k + 1))) := by
  simp only [Nat.testBit_eq_decide_div_mod_eq, decide_eq_true_eq, decide_eq_false_iff_not]
  match k, hk with
  | 0, _ => omega
  | 1, _ => omega
  | 2, _ => omega
  | 3, _ => omega
  | 4, _ => omega
  | 5, _ => omega
  | 6, _ => omega
  | 7, _ => omega

/-- The set of a bitmap's numbers. -/
theorem zi_mem (l : List Nat) (m : Int) : m ∈ zi l ↔ 0 ≤ m ∧ m.toNat ∈ l := by
  unfold zi
  rw [List.mem_map]
  constructor
  · rintro ⟨k, hk, rfl⟩
    exact ⟨by omega, by simpa using hk⟩
  · rintro ⟨h1, h2⟩
    exact ⟨m.toNat, h2, by omega⟩
theorem has_num1 {l : List UInt8} (h : l.length = 8) (y : Nat) (m : Int) (h1 : 1 ≤ m) (h2 : m ≤ 64) : hasN (bnumL l) y m = bitL l (m.toNat - 1) := by
  rw [bitL_num h (by omega)]
  unfold hasN
  rw [if_pos ⟨h1, h2⟩]
  congr 1
  omega
theorem has_num2 {l : List UInt8} (h : l.length = 8) (x : Nat) (m : Int) (h1 : 64 < m) (h2 : m ≤ 128) : hasN x (bnumL l) m = bitL l (m.toNat - 65) := by
  rw [bitL_num h (by omega)]
  unfold hasN
  rw [if_neg (by omega), if_pos ⟨h1, h2⟩]
  congr 1
  omega
theorem of_part {l : List UInt8} (h : l.length = 8) : ofH (zi (partL l 1 64)) = bnumL l ∧ ofL (zi (partL l 1 64)) = 0 := by
  refine set_ext (of_lt _).1 (of_lt _).2 (bnumL_lt h) (by decide) fun m => ?_
  rw [has_of]
  by_cases h1 : 1 ≤ m ∧ m ≤ 64
  · rw [has_num1 h 0 m h1.1 h1.2]
    cases hb : bitL l (m.toNat - 1)
    · rw [decide_eq_false]
      rw [zi_mem, partL_mem, hb]
      simp
    · rw [decide_eq_true]
      rw [zi_mem, partL_mem]
      exact ⟨⟨by omega, by omega, by omega, hb⟩, by omega, by omega⟩
  · rw [decide_eq_false (by rw [zi_mem, partL_mem]; omega)]
    unfold hasN
    rw [if_neg h1]
    simp [Nat.zero_testBit]
theorem of_rest {l k : List UInt8} (h : l.length = 8) (h' : k.length = 8) : ofH (zi (restL l 1 ++ partL k 65 64)) = bnumL l &&& (fullN - aH 1) ∧ ofL (zi (restL l 1 ++ partL k 65 64)) = bnumL k &&& (fullN - aL 1) := by
  refine set_ext (of_lt _).1 (of_lt _).2 (and_lt (bnumL_lt h)) (and_lt (bnumL_lt h')) fun m => ?_
  rw [has_of, has_without]
  by_cases h1 : 1 ≤ m ∧ m ≤ 64
  · rw [has_num1 h _ m h1.1 h1.2]
    cases hb : bitL l (m.toNat - 1)
    · rw [decide_eq_false]
      · rfl
      · rw [zi_mem, List.mem_append, restL_mem, partL_mem, hb]
        rintro ⟨⟨_, h | h⟩, _⟩
        · simp at h
        · omega
    · rw [Bool.true_and, ← decide_not, decide_eq_decide, zi_mem, List.mem_append, restL_mem, partL_mem]
      constructor
      · rintro ⟨⟨_, h | h⟩, _⟩ <;> omega
      · intro hm
        exact ⟨⟨by omega, .inl ⟨by omega, by omega, hb⟩⟩, by omega, by omega⟩
  by_cases h2 : 64 < m ∧ m ≤ 128
  · rw [has_num2 h' _ m h2.1 h2.2, show (!decide (m = 1)) = true by simp; omega, Bool.and_true]
    cases hb : bitL k (m.toNat - 65)
    · rw [decide_eq_false]
      rw [zi_mem, List.mem_append, restL_mem, partL_mem, hb]
      rintro ⟨⟨_, h | h⟩, _⟩
      · omega
      · simp at h
    · rw [decide_eq_true]
      rw [zi_mem, List.mem_append, restL_mem, partL_mem]
      exact ⟨⟨by omega, .inr ⟨by omega, by omega, hb⟩⟩, by omega, by omega⟩
  · rw [has_out _ _ m (by omega), decide_eq_false (by omega)]
    rfl
theorem part_nil {l : List UInt8} (h : l.length = 8) (f : Nat) : partL l f 64 = [] ↔ bnumL l = 0 := by
  constructor
  · intro e
    apply Nat.eq_of_testBit_eq
    intro j
    rw [Nat.zero_testBit]
    by_cases hj : j < 64
    · have hb := bitL_num h (m := 63 - j) (by omega)
      rw [show 63 - (63 - j) = j by omega] at hb
      rw [← hb]
      cases hc : bitL l (63 - j)
      · rfl
      · have := (partL_mem l f 64 (f + (63 - j))).2 ⟨by omega, by omega, by rw [show f + (63 - j) - f = 63 - j by omega]; exact hc⟩
        rw [e] at this
        cases this
    · exact lt_bit (bnumL_lt h) (by omega)
  · intro e
    apply List.eq_nil_iff_forall_not_mem.2
    intro n hn
    rw [partL_mem] at hn
    rw [bitL_num h (by omega), e, Nat.zero_testBit] at hn
    simp at hn

/-- The document's bytes of a list: bit by bit. -/
def bytesL (p : Nat → Bool) (b m : Nat) : List UInt8 := (List.range m).map fun i => UInt8.ofNat (accN p (b + 8 * i) 8)
theorem bytesL_succ (p : Nat → Bool) (b m : Nat) : bytesL p b (m + 1) = bytesL p b m ++ [UInt8.ofNat (accN p (b + 8 * m) 8)] := by
  unfold bytesL
  rw [List.range_succ, List.map_append]
  rfl
theorem bytesL_len (p : Nat → Bool) (b m : Nat) : (bytesL p b m).length = m := by simp [bytesL]
theorem accN_split (p : Nat → Bool) (b m : Nat) : ∀ n, accN p b (m + n) = accN p b m * 2 ^ n + accN p (b + m) n
  | 0 => by simp [accN]
  | n + 1 => by
    rw [← Nat.add_assoc]
    simp only [accN]
    rw [accN_split p b m n, Nat.pow_succ, show b + (m + n) + 1 = b + m + n + 1 by omega]
    rw [Nat.add_mul, Nat.mul_assoc]
    omega
theorem accN_byte (p : Nat → Bool) (b i : Nat) (hi : i < 8) : byN (accN p b 64) (7 - i) = accN p (b + 8 * i) 8 := by
  unfold byN
  have h1 := accN_split p b (8 * i + 8) (8 * (7 - i))
  rw [show 8 * i + 8 + 8 * (7 - i) = 64 by omega] at h1
  have h2 := accN_lt p (b + (8 * i + 8)) (8 * (7 - i))
  have h3 := accN_split p b (8 * i) 8
  have h4 := accN_lt p (b + 8 * i) 8
  rw [h1, Nat.mul_comm, Nat.mul_add_div (Nat.two_pow_pos _), Nat.div_eq_of_lt h2, Nat.add_zero, h3]
  omega
theorem bytesL_half (p : Nat → Bool) (b : Nat) : bytesL p b 8 = halfL (accN p b 64) := by
  unfold bytesL halfL
  apply List.map_congr_left
  intro i hi
  rw [List.mem_range] at hi
  rw [accN_byte p b i hi]

/-- A set's numbers, as a list, are the set again; with 1 ahead they are the set with 1. -/
theorem mem_list (h l : Nat) (m : Int) : m ∈ zi (listN h l 128) ↔ hasN h l m = true := by
  rw [zi_mem]
  unfold listN
  rw [List.mem_filter, List.mem_range'_1]
  constructor
  · rintro ⟨h1, h2, h3⟩
    rwa [show ((m.toNat : Nat) : Int) = m by omega] at h3
  · intro hm
    have := has_range hm
    exact ⟨by omega, by omega, by rw [show ((m.toNat : Nat) : Int) = m by omega]; exact hm⟩
theorem of_list {h l : Nat} (b1 : h < M64) (b2 : l < M64) : ofH (zi (listN h l 128)) = h ∧ ofL (zi (listN h l 128)) = l := by
  refine set_ext (of_lt _).1 (of_lt _).2 b1 b2 fun m => ?_
  rw [has_of]
  cases hm : hasN h l m
  · rw [decide_eq_false]
    rw [mem_list, hm]
    simp
  · have := has_range hm
    rw [decide_eq_true]
    rw [mem_list]
    exact ⟨hm, this.1, this.2⟩
theorem of_list1 {h l : Nat} (b1 : h < M64) (b2 : l < M64) : ofH (1 :: zi (listN h l 128)) = h ||| aH 1 := by
  refine (set_ext (of_lt (1 :: zi (listN h l 128))).1 (of_lt (1 :: zi (listN h l 128))).2 (or_lt b1 (aH_lt 1)) (or_lt b2 (aL_lt 1)) fun m => ?_).1
  have hmem : m ∈ 1 :: zi (listN h l 128) ↔ m = 1 ∨ hasN h l m = true := by rw [List.mem_cons, mem_list]
  rw [has_of, has_with]
  cases hm : hasN h l m
  · rw [Bool.false_or, decide_eq_decide, hmem, hm]
    simp
    omega
  · have := has_range hm
    rw [Bool.true_or, decide_eq_true]
    exact ⟨hmem.2 (.inr hm), this⟩
theorem low_zero {h l : Nat} (b2 : l < M64) : l = 0 ↔ ∀ m : Int, 64 < m → m ≤ 128 → hasN h l m = false := by
  constructor
  · rintro rfl m h1 h2
    unfold hasN
    rw [if_neg (by omega), if_pos ⟨h1, h2⟩, Nat.zero_testBit]
  · intro e
    apply Nat.eq_of_testBit_eq
    intro j
    rw [Nat.zero_testBit]
    by_cases hj : j < 64
    · rw [← has_low h l j hj]
      exact e _ (by omega) (by omega)
    · exact lt_bit b2 (by omega)

/-- What a half is spelled by, and what a place holds. -/
def spL (st : Nat) (l : List UInt8) : List UInt8 := if st = 1 then hputL l else l
def bwid (st : Nat) : Nat := if st = 1 then 16 else 8
theorem spL_len {l : List UInt8} (st : Nat) (h : l.length = 8) : (spL st l).length = bwid st := by
  unfold spL bwid
  split
  · rw [hputL_length, h]
  · exact h
theorem spL_append (st : Nat) (a b : List UInt8) : spL st (a ++ b) = spL st a ++ spL st b := by
  unfold spL
  split
  · exact hputL_append a b
  · rfl
def rdB (st : Nat) (t : List UInt8) : Bool := if st = 1 then hgetB t else true
def rdL (st : Nat) (t : List UInt8) : List UInt8 := if st = 1 then hgetL t else t
theorem rdL_len {t : List UInt8} (st : Nat) (h : t.length = bwid st) : (rdL st t).length = 8 := by
  unfold rdL
  unfold bwid at h
  split at h
  · rw [if_pos (by assumption), hgetL_length, h]
  · rw [if_neg (by assumption), h]
theorem rd_sp {l : List UInt8} (st : Nat) : rdB st (spL st l) = true ∧ rdL st (spL st l) = l := by
  unfold rdB rdL spL
  by_cases h : st = 1
  · simp only [h, if_true]
    exact ⟨hgetB_hputL l, hgetL_hputL l⟩
  · simp [h]
theorem sp_rd {t : List UInt8} (st : Nat) (h : rdB st t = true) : spL st (rdL st t) = t := by
  unfold rdB at h
  unfold rdL spL
  by_cases hs : st = 1
  · simp only [hs, if_true] at *
    exact hputL_hgetL t (hgetB_iff h).1 (hgetB_iff h).2
  · simp [hs]

/-- A set's bitmap; what a bitmap at a place is. -/
def bmpL (st h l : Nat) : List UInt8 := if l = 0 then spL st (halfL h) else spL st (halfL (h ||| aH 1)) ++ spL st (halfL l)

/-- The document's bitmap of a list, ahead of its spelling. -/
def anyN (p : Nat → Bool) (m : Nat) : Bool := (List.range m).any fun i => p (65 + i)
theorem anyN_succ (p : Nat → Bool) (m : Nat) : anyN p (m + 1) = (anyN p m || p (65 + m)) := by
  unfold anyN
  rw [List.range_succ, List.any_append]
  simp
def inL (zs : List Int) (n : Nat) : Bool := decide ((n : Int) ∈ zs)
def boutL (zs : List Int) : List UInt8 := if anyN (inL zs) 64 = true then bytesL (inL (1 :: zs)) 0 8 ++ bytesL (inL zs) 64 8 else bytesL (inL zs) 0 8
theorem boutL_put {h l : Nat} (st : Nat) (b1 : h < M64) (b2 : l < M64) : spL st (boutL (zi (listN h l 128))) = bmpL st h l := by
  have e1 := acc_of (zi (listN h l 128))
  have e2 := acc_of (1 :: zi (listN h l 128))
  have e3 := of_list b1 b2
  have e4 := of_list1 b1 b2
  have f1 : bytesL (inL (zi (listN h l 128))) 0 8 = halfL h := by rw [bytesL_half]; exact congrArg halfL (e1.1.trans e3.1)
  have f2 : bytesL (inL (zi (listN h l 128))) 64 8 = halfL l := by rw [bytesL_half]; exact congrArg halfL (e1.2.trans e3.2)
  have f3 : bytesL (inL (1 :: zi (listN h l 128))) 0 8 = halfL (h ||| aH 1) := by rw [bytesL_half]; exact congrArg halfL (e2.1.trans e4)
  unfold boutL bmpL
  rw [f1, f2, f3]
  by_cases hl : l = 0
  · rw [if_pos hl, if_neg]
    intro ha
    unfold anyN at ha
    rw [List.any_eq_true] at ha
    obtain ⟨i, hi, ha⟩ := ha
    rw [List.mem_range] at hi
    unfold inL at ha
    rw [decide_eq_true_eq, mem_list, (low_zero b2).1 hl _ (by omega) (by omega)] at ha
    cases ha
  · rw [if_neg hl, if_pos, spL_append]
    cases ha : anyN (inL (zi (listN h l 128))) 64
    · exfalso
      apply hl
      rw [low_zero (h := h) b2]
      intro m h1 h2
      unfold anyN at ha
      rw [List.any_eq_false] at ha
      have := ha (m.toNat - 65) (by rw [List.mem_range]; omega)
      unfold inL at this
      rw [show ((65 + (m.toNat - 65) : Nat) : Int) = m by omega, decide_eq_true_eq, mem_list] at this
      simpa using this
    · rfl
theorem inL_one (h l : Nat) : inL (zi (listN h l 128)) 1 = hasN h l 1 := by
  unfold inL
  cases e : hasN h l 1
  · rw [decide_eq_false]
    rw [mem_list]
    simp [e]
  · rw [decide_eq_true]
    rw [mem_list]
    exact e

end Go.Proofs.YtlkpiapmdflahaaDoor

/-
  What known, width, halfOf, number and spell answer: for every style, number and eight bytes, in every world.
-/
namespace Go.Proofs.YtlkpiapmdflahaaDoor
open Go.RowKit

/-- Eight cells in a block of their own. -/
theorem obj_cells8 {u : World} {g : Nat} {a b c d e f x y : Value} {t : TypeId} (h : u.heap[g]? = some (.cells #[a, b, c, d, e, f, x, y] t)) :
    (u.cell? ⟨g, 0, none⟩ = some a ∧ u.cell? ⟨g, 1, none⟩ = some b ∧ u.cell? ⟨g, 2, none⟩ = some c ∧ u.cell? ⟨g, 3, none⟩ = some d ∧ u.cell? ⟨g, 4, none⟩ = some e ∧ u.cell? ⟨g, 5, none⟩ = some f ∧ u.cell? ⟨g, 6, none⟩ = some x ∧ u.cell? ⟨g, 7, none⟩ = some y) ∧
    u.frozen? ⟨g, 0, none⟩ = false ∧ u.frozen? ⟨g, 1, none⟩ = false ∧ u.frozen? ⟨g, 2, none⟩ = false ∧ u.frozen? ⟨g, 3, none⟩ = false ∧ u.frozen? ⟨g, 4, none⟩ = false ∧ u.frozen? ⟨g, 5, none⟩ = false ∧ u.frozen? ⟨g, 6, none⟩ = false ∧ u.frozen? ⟨g, 7, none⟩ = false :=
  ⟨⟨cell_of_row u g 0 _ t _ h, cell_of_row u g 1 _ t _ h, cell_of_row u g 2 _ t _ h, cell_of_row u g 3 _ t _ h, cell_of_row u g 4 _ t _ h, cell_of_row u g 5 _ t _ h, cell_of_row u g 6 _ t _ h, cell_of_row u g 7 _ t _ h⟩,
   frozen_of_row u g 0 _ t h, frozen_of_row u g 1 _ t h, frozen_of_row u g 2 _ t h, frozen_of_row u g 3 _ t h, frozen_of_row u g 4 _ t h, frozen_of_row u g 5 _ t h, frozen_of_row u g 6 _ t h, frozen_of_row u g 7 _ t h⟩
def set8 (u : World) (g : Nat) (a b c d e f x y : Value) : World :=
  (((((((u.setCell ⟨g, 0, none⟩ a).setCell ⟨g, 1, none⟩ b).setCell ⟨g, 2, none⟩ c).setCell ⟨g, 3, none⟩ d).setCell ⟨g, 4, none⟩ e).setCell ⟨g, 5, none⟩ f).setCell ⟨g, 6, none⟩ x).setCell ⟨g, 7, none⟩ y
theorem obj_set8 {u : World} {g : Nat} {a' b' c' d' e' f' x' y' : Value} {t : TypeId} (h : u.heap[g]? = some (.cells #[a', b', c', d', e', f', x', y'] t)) (a b c d e f x y : Value) :
    (set8 u g a b c d e f x y).heap[g]? = some (.cells #[a, b, c, d, e, f, x, y] t) := by
  have k := heap_setCell_same _ g 7 _ t y (heap_setCell_same _ g 6 _ t x (heap_setCell_same _ g 5 _ t f (heap_setCell_same _ g 4 _ t e (heap_setCell_same _ g 3 _ t d (heap_setCell_same _ g 2 _ t c (heap_setCell_same _ g 1 _ t b (heap_setCell_same u g 0 _ t a h)))))))
  unfold set8
  rw [k]
  simp
theorem obj_set8_other {u : World} {p q : Nat} {O : Obj} (h : u.heap[q]? = some O) (hq : q ≠ p) (a b c d e f x y : Value) : (set8 u p a b c d e f x y).heap[q]? = some O := by
  unfold set8
  rw [heap_setCell_other _ _ _ _ hq, heap_setCell_other _ _ _ _ hq, heap_setCell_other _ _ _ _ hq, heap_setCell_other _ _ _ _ hq, heap_setCell_other _ _ _ _ hq, heap_setCell_other _ _ _ _ hq, heap_setCell_other _ _ _ _ hq, heap_setCell_other _ _ _ _ hq]
  exact h
theorem below_set8 {w u : World} {p : Nat} (h : Below w.heap.size w u) (hp : w.heap.size ≤ p) (a b c d e f x y : Value) : Below w.heap.size w (set8 u p a b c d e f x y) :=
  (((((((h.setCell (p := ⟨p, 0, none⟩) hp a).setCell (p := ⟨p, 1, none⟩) hp b).setCell (p := ⟨p, 2, none⟩) hp c).setCell (p := ⟨p, 3, none⟩) hp d).setCell (p := ⟨p, 4, none⟩) hp e).setCell (p := ⟨p, 5, none⟩) hp f).setCell (p := ⟨p, 6, none⟩) hp x).setCell (p := ⟨p, 7, none⟩) hp y

/-- A half, as a value and as a block. -/
def halfV (l : List UInt8) : Value := .agg (l.map xb).toArray
def halfO (l : List UInt8) : Obj := .cells (l.map xb).toArray 95

theorem bknown_any (st : Int) (w : World) : Calls Tryd.prog 39 #[.int .i64 st] w fun e w' => e = .returned (.bool (decide (st = 1) || decide (st = 2))) ∧ w = w' := by
  go_enter Tryd.func39, Tryd.ntmps39
  go_wp2
  · go_ret
    refine ⟨?_, rfl⟩
    rename_i h
    simp [h]
  · go_ret
    refine ⟨?_, rfl⟩
    rfl
theorem bknown_yes (st : Nat) (h : st = 1 ∨ st = 2) (w : World) : Calls Tryd.prog 39 #[.int .i64 (st : Int)] w fun e w' => e = .returned (.bool true) ∧ w = w' := by
  have := bknown_any (st : Int) w
  rwa [show (decide ((st : Int) = 1) || decide ((st : Int) = 2)) = true by rcases h with rfl | rfl <;> rfl] at this
theorem bknown_no (st : Int) (h : st ≠ 1 ∧ st ≠ 2) (w : World) : Calls Tryd.prog 39 #[.int .i64 st] w fun e w' => e = .returned (.bool false) ∧ w = w' := by
  have := bknown_any st w
  rwa [show (decide (st = 1) || decide (st = 2)) = false by simp [h.1, h.2]] at this
theorem width_any (st : Nat) (w : World) : Calls Tryd.prog 70 #[.int .i64 (st : Int)] w fun e w' => e = .returned (.int .i64 (bwid st : Int)) ∧ w = w' := by
  unfold bwid
  by_cases h : st = 1
  · subst h
    go_enter Tryd.func70, Tryd.ntmps70
    go_wp2
    go_ret
    exact ⟨rfl, rfl⟩
  · rw [if_neg h]
    have h' : ((st : Int) == 1) = false := by simp; omega
    go_enter Tryd.func70, Tryd.ntmps70
    go_wp2
    go_ret
    exact ⟨rfl, rfl⟩

def halfK (x k : Nat) : Array Value := ((List.range 8).map fun j => if 7 - j < k then .int .u8 (byN x (7 - j) : Int) else .int .u8 0).toArray
theorem halfK_at (x k : Nat) (hk : k < 8) : (halfK x k)[7 - k]? = some (.int .u8 0) := by
  match k, hk with
  | 0, _ => rfl
  | 1, _ => rfl
  | 2, _ => rfl
  | 3, _ => rfl
  | 4, _ => rfl
  | 5, _ => rfl
  | 6, _ => rfl
  | 7, _ => rfl
theorem halfK_step (x k : Nat) (hk : k < 8) : (halfK x k).setIfInBounds (7 - k) (.int .u8 ((x : Int) / 2 ^ (8 * k) % 256)) = halfK x (k + 1) := by
  have e : (x : Int) / 2 ^ (8 * k) % 256 = ((byN x k : Nat) : Int) := by unfold byN; simp
  rw [e]
  clear e
  match k, hk with
  | 0, _ => rfl
  | 1, _ => rfl
  | 2, _ => rfl
  | 3, _ => rfl
  | 4, _ => rfl
  | 5, _ => rfl
  | 6, _ => rfl
  | 7, _ => rfl
theorem halfK_end (x : Nat) : halfK x 8 = ((halfL x).map xb).toArray := by
  have e : ∀ i, Value.int .u8 (byN x i : Int) = xb (UInt8.ofNat (byN x i)) := fun i => by unfold xb; rw [of_byN]
  show #[Value.int .u8 (byN x 7 : Int), .int .u8 (byN x 6 : Int), .int .u8 (byN x 5 : Int), .int .u8 (byN x 4 : Int), .int .u8 (byN x 3 : Int), .int .u8 (byN x 2 : Int), .int .u8 (byN x 1 : Int), .int .u8 (byN x 0 : Int)] = _
  rw [e, e, e, e, e, e, e, e]
  rfl

set_option maxRecDepth 100000 in
set_option maxHeartbeats 800000 in
theorem halfOf_any (x : Nat) (w : World) : Calls Tryd.prog 58 #[.int .u64 (x : Int)] w fun e w' => e = .returned (halfV (halfL x)) ∧ Below w.heap.size w w' := by
  unfold halfV
  go_enter Tryd.func58, Tryd.ntmps58
  go_wp2
  go_loopw [4, 5] (fun _ i wr => ∃ k : Nat, k ≤ 8 ∧ i = .int .i64 (k : Int) ∧ wr.heap[w.heap.size + 1]? = some (.cells (halfK x k) 95) ∧ wr.heap[w.heap.size]? = some (.cells (halfK x 0) 95) ∧ Below w.heap.size w wr) (fun _ i _ => 8 - (intOf i).toNat)
  case atStart => exact ⟨0, Nat.zero_le _, rfl, heap_alloc2_new _ _ _, heap_alloc2_old _ _ _, hbt (below_al _ _) (below_al _ _)⟩
  case round =>
    obtain ⟨k, hk, rfl, h1, h0, hb⟩ := hrel
    by_cases hlt : k < 8
    · have hf := frozen_of_row wr (w.heap.size + 1) (7 - k) _ _ h1
      have hc := cell_of_row wr (w.heap.size + 1) (7 - k) _ _ _ h1
      rw [halfK_at x k hlt] at hc
      have H1 := Lib.hid h1; have H0 := Lib.hid h0; clear h1 h0
      go_wp2
      go_roundw
      case rel =>
        refine ⟨k + 1, by omega, by go_num, ?_, ?_, ?_⟩
        · rw [← halfK_step x k hlt]; exact heap_setCell_same _ _ _ _ _ _ H1.out
        · rw [heap_setCell_other _ _ _ _ (by simp)]; exact H0.out
        · exact hb.setCell (p := ⟨w.heap.size + 1, 7 - k, none⟩) (by simp) _
      case measure => simp [intOf]; omega
    · obtain rfl : k = 8 := by omega
      have h1' : wr.heap[w.heap.size + 1]? = some (.cells #[Value.int .u8 (byN x 7 : Int), .int .u8 (byN x 6 : Int), .int .u8 (byN x 5 : Int), .int .u8 (byN x 4 : Int), .int .u8 (byN x 3 : Int), .int .u8 (byN x 2 : Int), .int .u8 (byN x 1 : Int), .int .u8 (byN x 0 : Int)] 95) := h1
      have h0' : wr.heap[w.heap.size]? = some (.cells #[Value.int .u8 0, .int .u8 0, .int .u8 0, .int .u8 0, .int .u8 0, .int .u8 0, .int .u8 0, .int .u8 0] 95) := h0
      have HE := Lib.hid (halfK_end x)
      have HE' : Hid (halfK x 8 = #[Value.int .u8 (byN x 7 : Int), .int .u8 (byN x 6 : Int), .int .u8 (byN x 5 : Int), .int .u8 (byN x 4 : Int), .int .u8 (byN x 3 : Int), .int .u8 (byN x 2 : Int), .int .u8 (byN x 1 : Int), .int .u8 (byN x 0 : Int)]) := rfl
      generalize byN x 7 = y7 at *
      generalize byN x 6 = y6 at *
      generalize byN x 5 = y5 at *
      generalize byN x 4 = y4 at *
      generalize byN x 3 = y3 at *
      generalize byN x 2 = y2 at *
      generalize byN x 1 = y1 at *
      generalize byN x 0 = y0 at *
      obtain ⟨⟨c0, c1, c2, c3, c4, c5, c6, c7⟩, _⟩ := obj_cells8 h1'
      obtain ⟨⟨d0, d1, d2, d3, d4, d5, d6, d7⟩, f0, f1, f2, f3, f4, f5, f6, f7⟩ := obj_cells8 h0'
      have H0 := Lib.hid h0'
      clear h1 h0 h1' h0'
      go_wp2
      refine bodyPost_ret (results_cell_row rfl _ _ w.heap.size _ _ _ _ rfl (obj_set8 H0.out _ _ _ _ _ _ _ _) Tryd.underlying95 rfl (by kernel_rfl)) rfl ?_
      exact ⟨by rw [← HE.out, HE'.out], below_set8 hb (by simp) _ _ _ _ _ _ _ _⟩

theorem ix_half (cs : Array Value) (k : Nat) (hs : cs.size = 8) (h : k < 8) (w : World) : (Instr.index 95 (.agg cs) (.int .i64 (k : Int))).run Tryd.prog w = .ok (cs[k]'(by omega)) w := by
  have hk : k < cs.size := by omega
  simp [Instr.index, run_underlying Tryd.underlying95, asIntOf, h, part, isAgg, run_underlying Tryd.underlying5, hk]
theorem or_byte (y c : Nat) (hy : y < 72057594037927936) (hc : c < 256) : bits .or .u64 ((y : Int) * 256) (c : Int) = ((y * 256 + c : Nat) : Int) := by
  have h := u64_or_nat (y * 256) c (by omega) (by omega)
  rw [show ((y * 256 : Nat) : Int) = (y : Int) * 256 by simp] at h
  rw [h]
  congr 1
  have := Nat.two_pow_add_eq_or_of_lt (i := 8) (b := c) (by omega) y
  rw [Nat.mul_comm y 256, show 256 = 2 ^ 8 from rfl, ← this]
theorem numL_take_lt (l : List UInt8) (k : Nat) (h : l.length = 8) (hk : k < 8) : bnumL (l.take k) < 72057594037927936 := by
  rw [numL_cut l k (by omega), h]
  have := bnumL_lt h
  unfold M64 at this
  have e : 256 ≤ 256 ^ (8 - k) := by
    have : 256 ^ 1 ≤ 256 ^ (8 - k) := Nat.pow_le_pow_right (by omega) (by omega)
    omega
  have h2 : bnumL l / 256 ^ (8 - k) ≤ bnumL l / 256 := Nat.div_le_div_left e (by omega)
  omega

set_option maxRecDepth 100000 in
set_option maxHeartbeats 800000 in
theorem bnumber_any (l : List UInt8) (w : World) (h : l.length = 8) : Calls Tryd.prog 42 #[halfV l] w fun e w' => e = .returned (.int .u64 (bnumL l : Int)) ∧ Below w.heap.size w w' := by
  have HX : Hid (∀ (k : Nat) (hk : k < 8) (W : World), (Instr.index 95 (.agg (l.map xb).toArray) (.int .i64 (k : Int))).run Tryd.prog W = .ok (xb (l.getD k 0)) W) := fun k hk W => by
    rw [ix_half (l.map xb).toArray k (by simp [h]) hk W]
    simp [List.getD, h, hk]
  have HN : Hid (∀ (k : Nat) (hk : k < 8), bnumL (l.take (k + 1)) = bnumL (l.take k) * 256 + (l.getD k 0).toNat) := fun k hk => by rw [List.take_succ_eq_append_getElem (by omega), bnumL_snoc]; simp [List.getD, h, hk]
  have HL : Hid (∀ k, k < 8 → bnumL (l.take k) < 72057594037927936) := fun k hk => numL_take_lt l k h hk
  have HE : Hid (bnumL (l.take 8) = bnumL l) := by show _ = _; rw [List.take_of_length_le (by omega)]
  obtain ⟨a, b, c, d, e, f, g, i, rfl⟩ := eight h
  unfold halfV
  have hlist : (List.map xb [a, b, c, d, e, f, g, i]).toArray = #[xb a, xb b, xb c, xb d, xb e, xb f, xb g, xb i] := rfl
  rw [hlist] at HX ⊢
  clear hlist h
  generalize [a, b, c, d, e, f, g, i] = l at *
  go_enter Tryd.func42, Tryd.ntmps42
  go_wp2
  go_loop [3, 5, 7] (fun n _ i => ∃ k : Nat, k ≤ 8 ∧ i = .int .i64 (k : Int) ∧ n = .int .u64 (bnumL (l.take k) : Int)) (fun _ _ i => 8 - (intOf i).toNat)
  case atStart => exact ⟨0, Nat.zero_le _, rfl, rfl⟩
  case round =>
    obtain ⟨k, hk, rfl, rfl⟩ := hrel
    by_cases hlt : k < 8
    · have hx : ∀ W : World, (Instr.index 95 (.agg #[xb a, xb b, xb c, xb d, xb e, xb f, xb g, xb i]) (.int .i64 (k : Int))).run Tryd.prog W = .ok (.int .u8 ((l.getD k 0).toNat : Int)) W := HX.out k hlt
      have hn := HN.out k hlt
      have hl := HL.out k hlt
      generalize l.getD k 0 = v at *
      generalize bnumL (l.take k) = y at *
      have hv := v.toNat_lt
      have ho := or_byte y v.toNat hl hv
      generalize v.toNat = z at *
      have HN' := Lib.hid hn
      generalize hq : y * 256 + z = q at *
      have HQ := Lib.hid hq
      clear hn hq
      have hw : IntKind.u64.wrap ((y : Int) * 256) = (y : Int) * 256 := by rw [IntKind.wrap_u64]; omega
      have hw2 : IntKind.u64.wrap (z : Int) = (z : Int) := by rw [IntKind.wrap_u64]; omega
      have HL' := Lib.hid hl
      clear hl hv
      go_wp2
      go_round
      case rel => exact ⟨k + 1, by omega, by go_num, by rw [HN'.out]⟩
      case measure => simp [intOf]; omega
    · obtain rfl : k = 8 := by omega
      rw [HE.out]
      go_wp2
      go_ret
      exact ⟨rfl, below_al _ _⟩

theorem cv_half (l : List UInt8) (w : World) (g : Nat) (h : l.length = 8) (ho : w.heap[g]? = some (halfO l)) : (convert 74 9 (.slice (some ⟨g, 0, none⟩) 8 8)).run Tryd.prog w = .ok (.string ⟨l.toArray⟩) w := by
  have hr := run_convert_bytes_back (P := Tryd.prog) w 74 9 5 ⟨g, 0, none⟩ 8 l Tryd.underlying74 Tryd.underlying5 Tryd.underlying9 (by
    intro i hi
    rw [show (⟨g, 0, none⟩ : Addr).add i = ⟨g, i, none⟩ from by rw [Addr.add_lit, Nat.zero_add], cell_of_row w g i _ _ _ ho]
    simp [xb, hi])
  rw [h] at hr
  exact hr

set_option maxRecDepth 100000 in
set_option maxHeartbeats 800000 in
theorem spell_any (st : Nat) (l : List UInt8) (w : World) (h : l.length = 8) : Calls Tryd.prog 59 #[halfV l, .int .i64 (st : Int)] w fun e w' => e = .returned (.string ⟨(spL st l).toArray⟩) ∧ Below w.heap.size w w' := by
  have hcv := cv_half l (w.alloc (halfO l)) w.heap.size h (heap_alloc_new _ _)
  have HP := Lib.hid (fun W => hput_any ⟨l.toArray⟩ W (by show l.toArray.size ≤ _; simp [h]))
  have HS : Hid (spL st l = if st = 1 then hputL l else l) := rfl
  unfold halfO at hcv
  obtain ⟨a, b, c, d, e, f, g, i, rfl⟩ := eight h
  unfold halfV
  clear h
  have hlist : (List.map xb [a, b, c, d, e, f, g, i]).toArray = #[xb a, xb b, xb c, xb d, xb e, xb f, xb g, xb i] := rfl
  rw [hlist] at hcv ⊢
  clear hlist
  generalize [a, b, c, d, e, f, g, i] = l at *
  by_cases hs : st = 1
  · subst hs
    go_enter Tryd.func59, Tryd.ntmps59
    go_wp2_with fail
    refine (HP.out _).mono ?_
    rintro e w1 ⟨rfl, hb⟩
    go_wp2
    go_ret
    exact ⟨by rw [HS.out]; rfl, hbt (below_al _ _) hb⟩
  · have h' : ((st : Int) == 1) = false := by simp; omega
    have HS' : Hid (spL st l = l) := by show _ = _; rw [HS.out, if_neg hs]
    go_enter Tryd.func59, Tryd.ntmps59
    go_wp2
    go_ret
    exact ⟨by rw [HS'.out]; rfl, below_al _ _⟩

end Go.Proofs.YtlkpiapmdflahaaDoor

/-
  What read answers: for both styles, every text and every place in it, in every world.
-/
namespace Go.Proofs.YtlkpiapmdflahaaDoor
open Go.RowKit

/-- 'copy(h[:], s)' of as many bytes as h has. -/
theorem wpList_copy_str {P : Program} {w : World} {ops : Array Oper} {rest : List Oper} {o : Oper} {a : Act} {Q : Exit → Act → World → Prop} (hgd : o.guard = none) (d s : Operand) (dT sT : TypeId)
    (ho : o.op = .call { callee := .builtin .copy, args := #[d, s], argTypes := #[dT, sT] }) (elem : TypeId) (hu : P.underlying dT = some (.slice elem)) (hsz : (P.info? elem).map (·.size) = some 1)
    (g dLen dCap : Nat) (t : ByteArray) (hd : a.eval d = .slice (some ⟨g, 0, none⟩) dLen dCap) (hs : a.eval s = .string t)
    (cur : Array Value) (ty : TypeId) (hg : w.heap[g]? = some (.cells cur ty (0, 0))) (hle : t.size ≤ dLen) (hfit : t.size = cur.size) (B : Nat) (w0 : World) (hb : Below B w0 w) (hBg : B ≤ g)
    (h : ∀ w', w'.heap[g]? = some (.cells (t.data.toList.map xb).toArray ty (0, 0)) → (∀ k, k ≠ g → w'.heap[k]? = w.heap[k]?) → Below B w0 w' → wpList P ops Q rest (a.put o.dst (goInt t.size)) w') : wpList P ops Q (o :: rest) a w := by
  refine wpList_plain hgd fun K hK => ?_
  have hrun := Lib.run_copy_row_string (P := P) w dT sT o.type elem g 0 dLen dCap t cur ty hu hsz hg hle (by omega)
  unfold Oper.wp
  simp [execOp, ho, resolve, invoke, builtin, hd, hs, hrun, Result.andThen]
  refine hK _ _ (h _ ?_ (fun k hk => setRow_other w g k _ hk) (below_setRow hb hBg _))
  rw [setRow_heap w g _ _ ty _ hg]
  congr 2
  simp only [Lib.byteCells]
  rw [List.drop_of_length_le (by simp; omega)]
  simp
  exact fun _ _ => rfl

def zeroV : Value := .agg #[.int .u8 0, .int .u8 0, .int .u8 0, .int .u8 0, .int .u8 0, .int .u8 0, .int .u8 0, .int .u8 0]
theorem zeroV_half : zeroV = halfV (halfL 0) := rfl

set_option maxRecDepth 100000 in
set_option maxHeartbeats 800000 in
theorem read_cut (st : Nat) (s : ByteArray) (at_ : Nat) (w : World) (hs : s.size ≤ 1000000) (ha : at_ ≤ s.size) (h : s.size < at_ + bwid st) :
    Calls Tryd.prog 40 #[.int .i64 (st : Int), .string s, .int .i64 (at_ : Int)] w fun e w' => e = .returned (.tuple #[zeroV, .int .i64 0, .int .i64 2]) ∧ Below w.heap.size w w' := by
  unfold zeroV
  have hw : bwid st ≤ 16 := by unfold bwid; split <;> omega
  have HW := Lib.hid (width_any st)
  generalize bwid st = n at *
  go_enter Tryd.func40, Tryd.ntmps40
  go_wp2_with fail
  refine (HW.out _).mono ?_
  rintro e w1 ⟨rfl, rfl⟩
  go_wp2
  refine bodyPost_ret (results_cell_row2 rfl _ _ w.heap.size _ _ _ _ rfl (heap_al _ _ _ rfl) Tryd.underlying95 rfl (by kernel_rfl)) rfl ?_
  exact ⟨rfl, below_al _ _⟩

set_option maxRecDepth 100000 in
set_option maxHeartbeats 1600000 in
theorem read_bin (st : Nat) (s : ByteArray) (at_ : Nat) (w : World) (hst : st ≠ 1) (hs : s.size ≤ 1000000) (h : at_ + 8 ≤ s.size) :
    Calls Tryd.prog 40 #[.int .i64 (st : Int), .string s, .int .i64 (at_ : Int)] w fun e w' => e = .returned (.tuple #[halfV (s.extract at_ (at_ + 8)).data.toList, .int .i64 ((at_ + 8 : Nat) : Int), .int .i64 0]) ∧ Below w.heap.size w w' := by
  have HW := Lib.hid (width_any st)
  rw [show bwid st = 8 by unfold bwid; rw [if_neg hst]] at HW
  have hst' : ((st : Int) == 1) = false := by simp; omega
  have hsl : (s.extract at_ (at_ + 8)).size = 8 := by simp; omega
  have hln : (s.extract at_ (at_ + 8)).data.toList.length = 8 := by rw [Array.length_toList]; exact hsl
  clear hst
  go_enter Tryd.func40, Tryd.ntmps40
  go_wp2_with fail
  refine (HW.out _).mono ?_
  rintro e w1 ⟨rfl, rfl⟩
  generalize hL : (s.extract at_ (at_ + 8)).data.toList = l at *
  obtain ⟨a0, a1, a2, a3, a4, a5, a6, a7, rfl⟩ := eight hln
  have HL := Lib.hid hL; clear hL
  go_wp2_with (refine wpList_copy_str rfl (.tmp 40) (.tmp 41) 74 9 rfl 5 Tryd.underlying74 (by kernel_rfl) (w.heap.size + 1) 8 8 (s.extract at_ (at_ + 8)) rfl rfl _ _ (heap_alloc2_new w (.cells #[.int .u8 0, .int .u8 0, .int .u8 0, .int .u8 0, .int .u8 0, .int .u8 0, .int .u8 0, .int .u8 0] 95) _) (by rw [hsl]; omega) hsl w.heap.size w (hbt (below_al _ _) (below_al _ _)) (by omega) ?_; intro w2 hr2 ho2 hb2; have h0 := (ho2 w.heap.size (by omega)).trans (heap_alloc2_old _ _ _); clear ho2; rw [HL.out] at hr2; obtain ⟨⟨c0, c1, c2, c3, c4, c5, c6, c7⟩, _⟩ := obj_cells8 (show w2.heap[w.heap.size + 1]? = some (.cells #[.int .u8 (a0.toNat : Int), .int .u8 (a1.toNat : Int), .int .u8 (a2.toNat : Int), .int .u8 (a3.toNat : Int), .int .u8 (a4.toNat : Int), .int .u8 (a5.toNat : Int), .int .u8 (a6.toNat : Int), .int .u8 (a7.toNat : Int)] 95) from hr2); obtain ⟨⟨d0, d1, d2, d3, d4, d5, d6, d7⟩, f0, f1, f2, f3, f4, f5, f6, f7⟩ := obj_cells8 h0; have H0 := Lib.hid h0; clear hr2 h0)
  refine bodyPost_ret (results_cell_row2 rfl _ _ w.heap.size _ _ _ _ rfl (obj_set8 H0.out _ _ _ _ _ _ _ _) Tryd.underlying95 rfl (by kernel_rfl)) rfl ?_
  exact ⟨by rw [HL.out]; rfl, below_set8 hb2 (by omega) _ _ _ _ _ _ _ _⟩

set_option maxRecDepth 100000 in
set_option maxHeartbeats 1600000 in
theorem read_bad (s : ByteArray) (at_ : Nat) (w : World) (hs : s.size ≤ 1000000) (h : at_ + 16 ≤ s.size) (hx : hgetB (s.extract at_ (at_ + 16)).data.toList = false) :
    Calls Tryd.prog 40 #[.int .i64 ((1 : Nat) : Int), .string s, .int .i64 (at_ : Int)] w fun e w' => e = .returned (.tuple #[zeroV, .int .i64 0, .int .i64 3]) ∧ Below w.heap.size w w' := by
  unfold zeroV
  have HW := Lib.hid (width_any 1)
  rw [show bwid 1 = 16 from rfl] at HW
  have hsl : (s.extract at_ (at_ + 16)).size = 16 := by simp; omega
  have hg := fun W => hget_any (s.extract at_ (at_ + 16)) W (by rw [hsl]; omega)
  rw [hx, hgetS_no hx] at hg
  generalize hgetI (s.extract at_ (at_ + 16)).data.toList = z at hg
  have HG := Lib.hid hg; clear hg hx
  go_enter Tryd.func40, Tryd.ntmps40
  go_wp2_with fail
  refine (HW.out _).mono ?_
  rintro e w1 ⟨rfl, rfl⟩
  go_wp2_with fail
  refine (HG.out _).mono ?_
  rintro e w1 ⟨rfl, hb1⟩
  have h0 := obj_below (heap_alloc_new w (.cells #[.int .u8 0, .int .u8 0, .int .u8 0, .int .u8 0, .int .u8 0, .int .u8 0, .int .u8 0, .int .u8 0] 95)) hb1
  obtain ⟨⟨d0, d1, d2, d3, d4, d5, d6, d7⟩, f0, f1, f2, f3, f4, f5, f6, f7⟩ := obj_cells8 h0
  have H0 := Lib.hid h0
  have HB := Lib.hid (hbt (below_al _ _) hb1)
  clear h0 hb1
  go_wp2
  refine bodyPost_ret (results_cell_row2 rfl _ _ w.heap.size _ _ _ _ rfl (obj_set8 H0.out _ _ _ _ _ _ _ _) Tryd.underlying95 rfl (by kernel_rfl)) rfl ?_
  exact ⟨rfl, below_set8 HB.out (by omega) _ _ _ _ _ _ _ _⟩

set_option maxRecDepth 100000 in
set_option maxHeartbeats 1600000 in
theorem read_hex (s : ByteArray) (at_ : Nat) (w : World) (hs : s.size ≤ 1000000) (h : at_ + 16 ≤ s.size) (hx : hgetB (s.extract at_ (at_ + 16)).data.toList = true) :
    Calls Tryd.prog 40 #[.int .i64 ((1 : Nat) : Int), .string s, .int .i64 (at_ : Int)] w fun e w' => e = .returned (.tuple #[halfV (hgetL (s.extract at_ (at_ + 16)).data.toList), .int .i64 ((at_ + 16 : Nat) : Int), .int .i64 0]) ∧ Below w.heap.size w w' := by
  have HW := Lib.hid (width_any 1)
  rw [show bwid 1 = 16 from rfl] at HW
  have hsl : (s.extract at_ (at_ + 16)).size = 16 := by simp; omega
  have hln : (hgetL (s.extract at_ (at_ + 16)).data.toList).length = 8 := by rw [hgetL_length, Array.length_toList]; show (s.extract at_ (at_ + 16)).size / 2 = 8; omega
  have hg := fun W => hget_any (s.extract at_ (at_ + 16)) W (by rw [hsl]; omega)
  rw [hx, hgetS_yes hx, hgetI_yes hx] at hg
  generalize hL : hgetL (s.extract at_ (at_ + 16)).data.toList = l at *
  obtain ⟨a0, a1, a2, a3, a4, a5, a6, a7, rfl⟩ := eight hln
  have hz : (⟨[a0, a1, a2, a3, a4, a5, a6, a7].toArray⟩ : ByteArray).size = 8 := rfl
  have ht : (⟨[a0, a1, a2, a3, a4, a5, a6, a7].toArray⟩ : ByteArray).data.toList = [a0, a1, a2, a3, a4, a5, a6, a7] := rfl
  generalize (⟨[a0, a1, a2, a3, a4, a5, a6, a7].toArray⟩ : ByteArray) = t at *
  have HG := Lib.hid hg
  have HT := Lib.hid ht
  clear hg hx hL ht
  go_enter Tryd.func40, Tryd.ntmps40
  go_wp2_with fail
  refine (HW.out _).mono ?_
  rintro e w1 ⟨rfl, rfl⟩
  go_wp2_with fail
  refine (HG.out _).mono ?_
  rintro e w1 ⟨rfl, hb1⟩
  have H0' := Lib.hid (obj_below (heap_alloc_new w (.cells #[.int .u8 0, .int .u8 0, .int .u8 0, .int .u8 0, .int .u8 0, .int .u8 0, .int .u8 0, .int .u8 0] 95)) hb1)
  have HB := Lib.hid (hbt (below_al _ _) hb1)
  have hlt := obj_lt H0'.out
  clear hb1
  go_wp2_with (refine wpList_copy_str rfl (.tmp 40) (.tmp 41) 74 9 rfl 5 Tryd.underlying74 (by kernel_rfl) w1.heap.size 8 8 t rfl rfl _ _ (heap_alloc_new w1 (.cells #[.int .u8 0, .int .u8 0, .int .u8 0, .int .u8 0, .int .u8 0, .int .u8 0, .int .u8 0, .int .u8 0] 95)) (by omega) hz w.heap.size w (hbt HB.out (below_al _ _)) (by omega) ?_; intro w2 hr2 ho2 hb2; have h0 := (ho2 w.heap.size (by omega)).trans ((heap_alloc_old' _ _ _ (by omega)).trans H0'.out); clear ho2; rw [HT.out] at hr2; obtain ⟨⟨c0, c1, c2, c3, c4, c5, c6, c7⟩, _⟩ := obj_cells8 (show w2.heap[w1.heap.size]? = some (.cells #[.int .u8 (a0.toNat : Int), .int .u8 (a1.toNat : Int), .int .u8 (a2.toNat : Int), .int .u8 (a3.toNat : Int), .int .u8 (a4.toNat : Int), .int .u8 (a5.toNat : Int), .int .u8 (a6.toNat : Int), .int .u8 (a7.toNat : Int)] 95) from hr2); obtain ⟨⟨d0, d1, d2, d3, d4, d5, d6, d7⟩, f0, f1, f2, f3, f4, f5, f6, f7⟩ := obj_cells8 h0; have H0 := Lib.hid h0; clear hr2 h0)
  refine bodyPost_ret (results_cell_row2 rfl _ _ w.heap.size _ _ _ _ rfl (obj_set8 H0.out _ _ _ _ _ _ _ _) Tryd.underlying95 rfl (by kernel_rfl)) rfl ?_
  exact ⟨rfl, below_set8 hb2 (by omega) _ _ _ _ _ _ _ _⟩

/-- Both styles. -/
theorem read_ok (st : Nat) (s : ByteArray) (at_ : Nat) (w : World) (hst : st = 1 ∨ st = 2) (hs : s.size ≤ 1000000) (h : at_ + bwid st ≤ s.size) (hx : rdB st (s.extract at_ (at_ + bwid st)).data.toList = true) :
    Calls Tryd.prog 40 #[.int .i64 (st : Int), .string s, .int .i64 (at_ : Int)] w fun e w' => e = .returned (.tuple #[halfV (rdL st (s.extract at_ (at_ + bwid st)).data.toList), .int .i64 ((at_ + bwid st : Nat) : Int), .int .i64 0]) ∧ Below w.heap.size w w' := by
  rcases hst with rfl | rfl
  · exact read_hex s at_ w hs h hx
  · exact read_bin 2 s at_ w (by omega) hs h
theorem read_no (st : Nat) (s : ByteArray) (at_ : Nat) (w : World) (hst : st = 1 ∨ st = 2) (hs : s.size ≤ 1000000) (h : at_ + bwid st ≤ s.size) (hx : rdB st (s.extract at_ (at_ + bwid st)).data.toList = false) :
    Calls Tryd.prog 40 #[.int .i64 (st : Int), .string s, .int .i64 (at_ : Int)] w fun e w' => e = .returned (.tuple #[zeroV, .int .i64 0, .int .i64 3]) ∧ Below w.heap.size w w' := by
  rcases hst with rfl | rfl
  · exact read_bad s at_ w hs h hx
  · cases hx

end Go.Proofs.YtlkpiapmdflahaaDoor

/-
  Two halves are the same just if their bytes are, one by one: what the operator == says.
-/
namespace Go.Proofs.YtlkpiapmdflahaaDoor
open Go.RowKit

theorem run_part_u8 {xs : Array Value} {i : Nat} {v : Value} (h : xs[i]? = some v) (w : World) : (part 5 xs i).run Tryd.prog w = .ok v w := by
  simp [part, isAgg, run_underlying Tryd.underlying5, h]
theorem eqItems_u8 (d : Nat) (xs ys : Array Value) (f g : Nat → Int) (w : World) : ∀ is : List Nat, (∀ i ∈ is, xs[i]? = some (.int .u8 (f i))) → (∀ i ∈ is, ys[i]? = some (.int .u8 (g i))) →
    (Op.eqItems (d + 1) 5 1 xs ys is).run Tryd.prog w = .ok (is.all fun i => f i == g i) w
  | [], _, _ => by simp [Op.eqItems]
  | i :: is, hx, hy => by
    have h1 := run_part_u8 (hx i (by simp)) w
    have h2 := run_part_u8 (hy i (by simp)) w
    have h3 := run_equalIn_int (P := Tryd.prog) w d 5 .u8 .u8 (f i) (g i) Tryd.underlying5
    have ih := eqItems_u8 d xs ys f g w is (fun j hj => hx j (by simp [hj])) (fun j hj => hy j (by simp [hj]))
    simp only [Op.eqItems, Sem.run_bind, Nat.mul_one, h1, h2, h3, Result.andThen_ok]
    cases hb : f i == g i
    · simp [hb]
    · simp only [Bool.not_true, Bool.false_eq_true, if_false, List.all_cons, hb, Bool.true_and]
      exact ih
set_option maxRecDepth 100000 in
theorem half_eq (a b c d e f g i : Nat) (w : World) :
    (Op.equalIn 10000 95 (.agg #[.int .u8 (a : Int), .int .u8 (b : Int), .int .u8 (c : Int), .int .u8 (d : Int), .int .u8 (e : Int), .int .u8 (f : Int), .int .u8 (g : Int), .int .u8 (i : Int)]) (.agg #[.int .u8 0, .int .u8 0, .int .u8 0, .int .u8 0, .int .u8 0, .int .u8 0, .int .u8 0, .int .u8 0])).run Tryd.prog w =
      .ok (decide (a = 0 ∧ b = 0 ∧ c = 0 ∧ d = 0 ∧ e = 0 ∧ f = 0 ∧ g = 0 ∧ i = 0)) w := by
  obtain ⟨i0, hi, _⟩ := info_parts Tryd.infoX8
  rw [show (10000 : Nat) = 9999 + 1 from rfl, run_equalIn_array w 9999 _ _ Tryd.underlying95 hi, show Tryd.prog.cellsOf 5 = 1 by kernel_rfl]
  rw [show (9999 : Nat) = 9998 + 1 from rfl, eqItems_u8 9998 _ _ (fun j => ([a, b, c, d, e, f, g, i].getD j 0 : Nat)) (fun _ => 0) w (List.range 8) (by simp [show List.range 8 = [0, 1, 2, 3, 4, 5, 6, 7] from rfl]) (by simp [show List.range 8 = [0, 1, 2, 3, 4, 5, 6, 7] from rfl])]
  congr 1
  rw [show List.range 8 = [0, 1, 2, 3, 4, 5, 6, 7] from rfl]
  rw [Bool.eq_iff_iff]
  simp
set_option maxRecDepth 100000 in
theorem half_eq_yes (w : World) : (Op.equalIn 10000 95 (.agg #[.int .u8 0, .int .u8 0, .int .u8 0, .int .u8 0, .int .u8 0, .int .u8 0, .int .u8 0, .int .u8 0]) (.agg #[.int .u8 0, .int .u8 0, .int .u8 0, .int .u8 0, .int .u8 0, .int .u8 0, .int .u8 0, .int .u8 0])).run Tryd.prog w = .ok true w :=
  half_eq 0 0 0 0 0 0 0 0 w
set_option maxRecDepth 100000 in
theorem half_eq_no (a b c d e f g i : Nat) (h : ¬ (a = 0 ∧ b = 0 ∧ c = 0 ∧ d = 0 ∧ e = 0 ∧ f = 0 ∧ g = 0 ∧ i = 0)) (w : World) :
    (Op.equalIn 10000 95 (.agg #[.int .u8 (a : Int), .int .u8 (b : Int), .int .u8 (c : Int), .int .u8 (d : Int), .int .u8 (e : Int), .int .u8 (f : Int), .int .u8 (g : Int), .int .u8 (i : Int)]) (.agg #[.int .u8 0, .int .u8 0, .int .u8 0, .int .u8 0, .int .u8 0, .int .u8 0, .int .u8 0, .int .u8 0])).run Tryd.prog w = .ok false w := by
  rw [half_eq, decide_eq_false h]

end Go.Proofs.YtlkpiapmdflahaaDoor

/-
  What bitmap.Get answers, by what read does: for every style, text and place, in every world.
-/
namespace Go.Proofs.YtlkpiapmdflahaaDoor
open Go.RowKit

theorem get_style (st : Int) (s : ByteArray) (at_ : Int) (w : World) (hst : st ≠ 1 ∧ st ≠ 2) :
    Calls Tryd.prog 19 #[.int .i64 st, .string s, .int .i64 at_] w fun e w' => e = .returned (.tuple #[setV 0 0, .int .i64 0, .int .i64 1]) ∧ Below w.heap.size w w' := by
  have HK := Lib.hid (bknown_no st hst)
  unfold setV
  clear hst
  go_enter Tryd.func19, Tryd.ntmps19
  go_wp2_with fail
  refine (HK.out _).mono ?_
  rintro e w1 ⟨rfl, rfl⟩
  go_wp2
  refine bodyPost_ret (results_cell_row2 rfl _ _ w.heap.size _ _ _ _ rfl (heap_al _ _ _ rfl) Tryd.underlying52 rfl (by kernel_rfl)) rfl ?_
  exact ⟨rfl, below_al _ _⟩
theorem get_place (st : Nat) (s : ByteArray) (at_ : Int) (w : World) (hst : st = 1 ∨ st = 2) (ha : at_ < 0 ∨ (s.size : Int) < at_) :
    Calls Tryd.prog 19 #[.int .i64 (st : Int), .string s, .int .i64 at_] w fun e w' => e = .returned (.tuple #[setV 0 0, .int .i64 0, .int .i64 1]) ∧ Below w.heap.size w w' := by
  have HK := Lib.hid (bknown_yes st hst)
  unfold setV
  clear hst
  by_cases h0 : at_ < 0
  · clear ha
    go_enter Tryd.func19, Tryd.ntmps19
    go_wp2_with fail
    refine (HK.out _).mono ?_
    rintro e w1 ⟨rfl, rfl⟩
    go_wp2
    refine bodyPost_ret (results_cell_row2 rfl _ _ w.heap.size _ _ _ _ rfl (heap_al _ _ _ rfl) Tryd.underlying52 rfl (by kernel_rfl)) rfl ?_
    exact ⟨rfl, below_al _ _⟩
  · have h1 : (s.size : Int) < at_ := by omega
    have h2 : decide (at_ < 0) = false := by simp; omega
    clear ha h0
    go_enter Tryd.func19, Tryd.ntmps19
    go_wp2_with fail
    refine (HK.out _).mono ?_
    rintro e w1 ⟨rfl, rfl⟩
    go_wp2
    refine bodyPost_ret (results_cell_row2 rfl _ _ w.heap.size _ _ _ _ rfl (heap_al _ _ _ rfl) Tryd.underlying52 rfl (by kernel_rfl)) rfl ?_
    exact ⟨rfl, below_al _ _⟩

/-- What read answers, as the walks of Get take it. -/
def ReadsTo (st : Nat) (s : ByteArray) (at_ : Nat) (V : Value) (n e : Nat) : Prop :=
  ∀ W, Calls Tryd.prog 40 #[.int .i64 (st : Int), .string s, .int .i64 (at_ : Int)] W fun r w' => r = .returned (.tuple #[V, .int .i64 (n : Int), .int .i64 (e : Int)]) ∧ Below W.heap.size W w'

set_option maxRecDepth 100000 in
set_option maxHeartbeats 800000 in
theorem get_err1 (st : Nat) (s : ByteArray) (at_ n : Nat) (w : World) (hst : st = 1 ∨ st = 2) (ha : at_ ≤ s.size) (hr : ReadsTo st s at_ zeroV 0 n) (hn : n ≠ 0) :
    Calls Tryd.prog 19 #[.int .i64 (st : Int), .string s, .int .i64 (at_ : Int)] w fun e w' => e = .returned (.tuple #[setV 0 0, .int .i64 0, .int .i64 (n : Int)]) ∧ Below w.heap.size w w' := by
  have HK := Lib.hid (bknown_yes st hst)
  have HR := Lib.hid hr
  unfold ReadsTo zeroV at HR
  have h2 : decide ((at_ : Int) < 0) = false := by simp
  have h3 : decide (s.size < at_) = false := by simp; omega
  have h4 : ((n : Int) != 0) = true := by simp [hn]
  unfold setV
  clear hst hr hn ha
  go_enter Tryd.func19, Tryd.ntmps19
  go_wp2_with fail
  refine (HK.out _).mono ?_
  rintro e w1 ⟨rfl, rfl⟩
  go_wp2_with fail
  refine (HR.out _).mono ?_
  rintro e w1 ⟨rfl, hb1⟩
  have h0 := obj_below (heap_alloc_new w (setO 0 0)) hb1
  obtain ⟨c0, c1, f0, f1⟩ := obj_cells h0
  have hl := obj_lt h0
  have H0 := Lib.hid h0
  have HB := Lib.hid (hbt (below_al _ _) hb1)
  clear h0 hb1
  go_wp2
  refine bodyPost_ret (results_cell_row2 rfl _ _ w.heap.size _ _ _ _ rfl ((heap_alloc_old' _ _ _ (by simp; omega)).trans (obj_set2 H0.out _ _)) Tryd.underlying52 rfl (by kernel_rfl)) rfl ?_
  exact ⟨rfl, hbt (below_set2 HB.out (by omega) _ _) (below_al _ _)⟩

set_option maxRecDepth 100000 in
set_option maxHeartbeats 1600000 in
theorem get_short (st : Nat) (s : ByteArray) (at_ n x : Nat) (a0 a1 a2 a3 a4 a5 a6 a7 : Nat) (w : World) (hst : st = 1 ∨ st = 2) (ha : at_ ≤ s.size) (hr : ReadsTo st s at_ (.agg #[.int .u8 (a0 : Int), .int .u8 (a1 : Int), .int .u8 (a2 : Int), .int .u8 (a3 : Int), .int .u8 (a4 : Int), .int .u8 (a5 : Int), .int .u8 (a6 : Int), .int .u8 (a7 : Int)]) n 0)
    (hx : ∀ W, Calls Tryd.prog 42 #[.agg #[.int .u8 (a0 : Int), .int .u8 (a1 : Int), .int .u8 (a2 : Int), .int .u8 (a3 : Int), .int .u8 (a4 : Int), .int .u8 (a5 : Int), .int .u8 (a6 : Int), .int .u8 (a7 : Int)]] W fun e w' => e = .returned (.int .u64 (x : Int)) ∧ Below W.heap.size W w') (bx : x < M64) (h1 : hasN x 0 1 = false) :
    Calls Tryd.prog 19 #[.int .i64 (st : Int), .string s, .int .i64 (at_ : Int)] w fun e w' => e = .returned (.tuple #[setV x 0, .int .i64 (n : Int), .int .i64 0]) ∧ Below w.heap.size w w' := by
  have HK := Lib.hid (bknown_yes st hst)
  have HR := Lib.hid hr
  unfold ReadsTo at HR
  have HX := Lib.hid hx
  have HBT := Lib.hid (bits_any x 0)
  have HA := Lib.hid (fun W => by have := has_any x 0 1 W bx (by decide); rw [h1] at this; exact this)
  have h2 : decide ((at_ : Int) < 0) = false := by simp
  have h3 : decide (s.size < at_) = false := by simp; omega
  unfold setV at *
  clear hst hr ha hx bx h1
  go_enter Tryd.func19, Tryd.ntmps19
  go_wp2_with fail
  refine (HK.out _).mono ?_
  rintro e w1 ⟨rfl, rfl⟩
  go_wp2_with fail
  refine (HR.out _).mono ?_
  rintro e w1 ⟨rfl, hb1⟩
  have h0 := obj_below (heap_alloc_new w (setO 0 0)) hb1
  have HB := Lib.hid (hbt (hbt (below_al _ _) hb1) (below_al _ (.cells #[.int .u8 (a0 : Int), .int .u8 (a1 : Int), .int .u8 (a2 : Int), .int .u8 (a3 : Int), .int .u8 (a4 : Int), .int .u8 (a5 : Int), .int .u8 (a6 : Int), .int .u8 (a7 : Int)] 95)))
  have H0 := Lib.hid ((heap_alloc_old' w1 (.cells #[.int .u8 (a0 : Int), .int .u8 (a1 : Int), .int .u8 (a2 : Int), .int .u8 (a3 : Int), .int .u8 (a4 : Int), .int .u8 (a5 : Int), .int .u8 (a6 : Int), .int .u8 (a7 : Int)] 95) _ (obj_lt h0)).trans h0)
  clear h0 hb1
  go_wp2_with fail
  refine (HX.out _).mono ?_
  rintro e w2 ⟨rfl, hb2⟩
  have H02 := Lib.hid (obj_below H0.out hb2)
  have HB2 := Lib.hid (hbt HB.out hb2)
  clear hb2
  go_wp2_with fail
  refine (HBT.out _).mono ?_
  rintro e w3 ⟨rfl, hb3⟩
  have H03 := Lib.hid ((heap_alloc_old' w3 (setO x 0) _ (obj_lt (obj_below H02.out hb3))).trans (obj_below H02.out hb3))
  have HB3 := Lib.hid (hbt (hbt HB2.out hb3) (below_al _ (setO x 0)))
  have HS3 := Lib.hid (heap_alloc_new w3 (setO x 0))
  clear hb3
  go_wp2_with fail
  refine (HA.out _).mono ?_
  rintro e w4 ⟨rfl, hb4⟩
  have h0 := obj_below H03.out hb4
  obtain ⟨c0, c1, f0, f1⟩ := obj_cells h0
  obtain ⟨c2, c3, _, _⟩ := obj_cells (obj_below HS3.out hb4)
  have H04 := Lib.hid h0
  have HB4 := Lib.hid (hbt HB3.out hb4)
  clear hb4 h0
  go_wp2
  refine bodyPost_ret (results_cell_row2 rfl _ _ w.heap.size _ _ _ _ rfl (obj_set2 H04.out _ _) Tryd.underlying52 rfl (by kernel_rfl)) rfl ?_
  exact ⟨rfl, below_set2 HB4.out (by omega) _ _⟩

end Go.Proofs.YtlkpiapmdflahaaDoor

/-
  What bitmap.Get answers where the first half says that there is a second one: for every style, text and place, in every world.
-/
namespace Go.Proofs.YtlkpiapmdflahaaDoor
open Go.RowKit

set_option maxRecDepth 100000 in
set_option maxHeartbeats 3200000 in
theorem get_err2 (st : Nat) (s : ByteArray) (at_ n x m : Nat) (a0 a1 a2 a3 a4 a5 a6 a7 : Nat) (w : World) (hst : st = 1 ∨ st = 2) (ha : at_ ≤ s.size) (hr : ReadsTo st s at_ (.agg #[.int .u8 (a0 : Int), .int .u8 (a1 : Int), .int .u8 (a2 : Int), .int .u8 (a3 : Int), .int .u8 (a4 : Int), .int .u8 (a5 : Int), .int .u8 (a6 : Int), .int .u8 (a7 : Int)]) n 0)
    (hx : ∀ W, Calls Tryd.prog 42 #[.agg #[.int .u8 (a0 : Int), .int .u8 (a1 : Int), .int .u8 (a2 : Int), .int .u8 (a3 : Int), .int .u8 (a4 : Int), .int .u8 (a5 : Int), .int .u8 (a6 : Int), .int .u8 (a7 : Int)]] W fun e w' => e = .returned (.int .u64 (x : Int)) ∧ Below W.heap.size W w') (bx : x < M64) (h1 : hasN x 0 1 = true) (hr2 : ReadsTo st s n zeroV 0 m) (hm : m ≠ 0) :
    Calls Tryd.prog 19 #[.int .i64 (st : Int), .string s, .int .i64 (at_ : Int)] w fun e w' => e = .returned (.tuple #[setV 0 0, .int .i64 0, .int .i64 (m : Int)]) ∧ Below w.heap.size w w' := by
  have HK := Lib.hid (bknown_yes st hst)
  have HR := Lib.hid hr
  unfold ReadsTo at HR
  have HX := Lib.hid hx
  have HBT := Lib.hid (bits_any x 0)
  have HA := Lib.hid (fun W => by have := has_any x 0 1 W bx (by decide); rw [h1] at this; exact this)
  have h2 : decide ((at_ : Int) < 0) = false := by simp
  have h3 : decide (s.size < at_) = false := by simp; omega
  have HR2 := Lib.hid hr2
  unfold ReadsTo at HR2
  unfold zeroV at HR2
  have h4 : ((m : Int) != 0) = true := by simp [hm]
  unfold setV at *
  clear hst hr ha hx bx h1 hr2 hm
  go_enter Tryd.func19, Tryd.ntmps19
  go_wp2_with fail
  refine (HK.out _).mono ?_
  rintro e w1 ⟨rfl, rfl⟩
  go_wp2_with fail
  refine (HR.out _).mono ?_
  rintro e w1 ⟨rfl, hb1⟩
  have h0 := obj_below (heap_alloc_new w (setO 0 0)) hb1
  have HB := Lib.hid (hbt (hbt (below_al _ _) hb1) (below_al _ (.cells #[.int .u8 (a0 : Int), .int .u8 (a1 : Int), .int .u8 (a2 : Int), .int .u8 (a3 : Int), .int .u8 (a4 : Int), .int .u8 (a5 : Int), .int .u8 (a6 : Int), .int .u8 (a7 : Int)] 95)))
  have H0 := Lib.hid ((heap_alloc_old' w1 (.cells #[.int .u8 (a0 : Int), .int .u8 (a1 : Int), .int .u8 (a2 : Int), .int .u8 (a3 : Int), .int .u8 (a4 : Int), .int .u8 (a5 : Int), .int .u8 (a6 : Int), .int .u8 (a7 : Int)] 95) _ (obj_lt h0)).trans h0)
  have HC := Lib.hid (heap_alloc_new w1 (.cells #[.int .u8 (a0 : Int), .int .u8 (a1 : Int), .int .u8 (a2 : Int), .int .u8 (a3 : Int), .int .u8 (a4 : Int), .int .u8 (a5 : Int), .int .u8 (a6 : Int), .int .u8 (a7 : Int)] 95))
  have hne : w.heap.size < w1.heap.size := obj_lt h0
  clear h0 hb1
  go_wp2_with fail
  refine (HX.out _).mono ?_
  rintro e w2 ⟨rfl, hb2⟩
  have H02 := Lib.hid (obj_below H0.out hb2)
  have HC2 := Lib.hid (obj_below HC.out hb2)
  have HB2 := Lib.hid (hbt HB.out hb2)
  clear hb2
  generalize w1.heap.size = g9 at *
  go_wp2_with fail
  refine (HBT.out _).mono ?_
  rintro e w3 ⟨rfl, hb3⟩
  have H03 := Lib.hid ((heap_alloc_old' w3 (setO x 0) _ (obj_lt (obj_below H02.out hb3))).trans (obj_below H02.out hb3))
  have HC3 := Lib.hid ((heap_alloc_old' w3 (setO x 0) _ (obj_lt (obj_below HC2.out hb3))).trans (obj_below HC2.out hb3))
  have HB3 := Lib.hid (hbt (hbt HB2.out hb3) (below_al _ (setO x 0)))
  clear hb3
  go_wp2_with fail
  refine (HA.out _).mono ?_
  rintro e w4 ⟨rfl, hb4⟩
  have H04 := Lib.hid (obj_below H03.out hb4)
  have HC4 := Lib.hid (obj_below HC3.out hb4)
  have HB4 := Lib.hid (hbt HB3.out hb4)
  clear hb4
  go_wp2_with fail
  refine (HR2.out _).mono ?_
  rintro e w5 ⟨rfl, hb5⟩
  have h0 := obj_below H04.out hb5
  have H05 := Lib.hid h0
  have HC5 := Lib.hid (obj_below HC4.out hb5)
  have HB5 := Lib.hid (hbt HB4.out hb5)
  obtain ⟨c0, c1, f0, f1⟩ := obj_cells h0
  have hl := obj_lt h0
  clear hb5 h0
  go_wp2
  refine bodyPost_ret (results_cell_row2 rfl _ _ w.heap.size _ _ _ _ rfl ((heap_alloc_old' _ _ _ (by simp; omega)).trans (obj_set2 H05.out _ _)) Tryd.underlying52 rfl (by kernel_rfl)) rfl ?_
  exact ⟨rfl, hbt (below_set2 HB5.out (by omega) _ _) (below_al _ _)⟩

set_option maxRecDepth 100000 in
set_option maxHeartbeats 3200000 in
theorem get_zero (st : Nat) (s : ByteArray) (at_ n x m : Nat) (a0 a1 a2 a3 a4 a5 a6 a7 : Nat) (w : World) (hst : st = 1 ∨ st = 2) (ha : at_ ≤ s.size) (hr : ReadsTo st s at_ (.agg #[.int .u8 (a0 : Int), .int .u8 (a1 : Int), .int .u8 (a2 : Int), .int .u8 (a3 : Int), .int .u8 (a4 : Int), .int .u8 (a5 : Int), .int .u8 (a6 : Int), .int .u8 (a7 : Int)]) n 0)
    (hx : ∀ W, Calls Tryd.prog 42 #[.agg #[.int .u8 (a0 : Int), .int .u8 (a1 : Int), .int .u8 (a2 : Int), .int .u8 (a3 : Int), .int .u8 (a4 : Int), .int .u8 (a5 : Int), .int .u8 (a6 : Int), .int .u8 (a7 : Int)]] W fun e w' => e = .returned (.int .u64 (x : Int)) ∧ Below W.heap.size W w') (bx : x < M64) (h1 : hasN x 0 1 = true) (hr2 : ReadsTo st s n zeroV m 0) :
    Calls Tryd.prog 19 #[.int .i64 (st : Int), .string s, .int .i64 (at_ : Int)] w fun e w' => e = .returned (.tuple #[setV 0 0, .int .i64 0, .int .i64 8]) ∧ Below w.heap.size w w' := by
  have HK := Lib.hid (bknown_yes st hst)
  have HR := Lib.hid hr
  unfold ReadsTo at HR
  have HX := Lib.hid hx
  have HBT := Lib.hid (bits_any x 0)
  have HA := Lib.hid (fun W => by have := has_any x 0 1 W bx (by decide); rw [h1] at this; exact this)
  have h2 : decide ((at_ : Int) < 0) = false := by simp
  have h3 : decide (s.size < at_) = false := by simp; omega
  have HR2 := Lib.hid hr2
  unfold ReadsTo at HR2
  unfold zeroV at HR2
  have heq := half_eq_yes
  unfold setV at *
  clear hst hr ha hx bx h1 hr2 
  go_enter Tryd.func19, Tryd.ntmps19
  go_wp2_with fail
  refine (HK.out _).mono ?_
  rintro e w1 ⟨rfl, rfl⟩
  go_wp2_with fail
  refine (HR.out _).mono ?_
  rintro e w1 ⟨rfl, hb1⟩
  have h0 := obj_below (heap_alloc_new w (setO 0 0)) hb1
  have HB := Lib.hid (hbt (hbt (below_al _ _) hb1) (below_al _ (.cells #[.int .u8 (a0 : Int), .int .u8 (a1 : Int), .int .u8 (a2 : Int), .int .u8 (a3 : Int), .int .u8 (a4 : Int), .int .u8 (a5 : Int), .int .u8 (a6 : Int), .int .u8 (a7 : Int)] 95)))
  have H0 := Lib.hid ((heap_alloc_old' w1 (.cells #[.int .u8 (a0 : Int), .int .u8 (a1 : Int), .int .u8 (a2 : Int), .int .u8 (a3 : Int), .int .u8 (a4 : Int), .int .u8 (a5 : Int), .int .u8 (a6 : Int), .int .u8 (a7 : Int)] 95) _ (obj_lt h0)).trans h0)
  have HC := Lib.hid (heap_alloc_new w1 (.cells #[.int .u8 (a0 : Int), .int .u8 (a1 : Int), .int .u8 (a2 : Int), .int .u8 (a3 : Int), .int .u8 (a4 : Int), .int .u8 (a5 : Int), .int .u8 (a6 : Int), .int .u8 (a7 : Int)] 95))
  have hne : w.heap.size < w1.heap.size := obj_lt h0
  clear h0 hb1
  go_wp2_with fail
  refine (HX.out _).mono ?_
  rintro e w2 ⟨rfl, hb2⟩
  have H02 := Lib.hid (obj_below H0.out hb2)
  have HC2 := Lib.hid (obj_below HC.out hb2)
  have HB2 := Lib.hid (hbt HB.out hb2)
  clear hb2
  generalize w1.heap.size = g9 at *
  go_wp2_with fail
  refine (HBT.out _).mono ?_
  rintro e w3 ⟨rfl, hb3⟩
  have H03 := Lib.hid ((heap_alloc_old' w3 (setO x 0) _ (obj_lt (obj_below H02.out hb3))).trans (obj_below H02.out hb3))
  have HC3 := Lib.hid ((heap_alloc_old' w3 (setO x 0) _ (obj_lt (obj_below HC2.out hb3))).trans (obj_below HC2.out hb3))
  have HB3 := Lib.hid (hbt (hbt HB2.out hb3) (below_al _ (setO x 0)))
  clear hb3
  go_wp2_with fail
  refine (HA.out _).mono ?_
  rintro e w4 ⟨rfl, hb4⟩
  have H04 := Lib.hid (obj_below H03.out hb4)
  have HC4 := Lib.hid (obj_below HC3.out hb4)
  have HB4 := Lib.hid (hbt HB3.out hb4)
  clear hb4
  go_wp2_with fail
  refine (HR2.out _).mono ?_
  rintro e w5 ⟨rfl, hb5⟩
  have h0 := obj_below H04.out hb5
  have H05 := Lib.hid h0
  have HC5 := Lib.hid (obj_below HC4.out hb5)
  have HB5 := Lib.hid (hbt HB4.out hb5)
  obtain ⟨c0, c1, f0, f1⟩ := obj_cells h0
  have hl := obj_lt h0
  clear hb5 h0
  go_wp2
  refine bodyPost_ret (results_cell_row2 rfl _ _ w.heap.size _ _ _ _ rfl ((heap_alloc_old' _ _ _ (by simp; omega)).trans (obj_set2 H05.out _ _)) Tryd.underlying52 rfl (by kernel_rfl)) rfl ?_
  exact ⟨rfl, hbt (below_set2 HB5.out (by omega) _ _) (below_al _ _)⟩

/-- What the last region of Get keeps: both halves, room for the set. -/
def GetS (w : World) (g6 g9 g13 : Nat) (L M : Array Value) (u : World) : Prop := Below w.heap.size w u ∧ u.heap[g9]? = some (.cells L 95) ∧ u.heap[g13]? = some (.cells M 95) ∧ ∃ a b, u.heap[g6]? = some (.cells #[a, b] 52)
theorem GetS.below {w u u' : World} {g6 g9 g13 : Nat} {L M : Array Value} (t : GetS w g6 g9 g13 L M u) (hb : Below u.heap.size u u') : GetS w g6 g9 g13 L M u' := by
  obtain ⟨h1, h2, h3, a, b, h4⟩ := t
  exact ⟨hbt h1 hb, obj_below h2 hb, obj_below h3 hb, a, b, obj_below h4 hb⟩
theorem GetS.drew {w u : World} {g6 g9 g13 : Nat} {L M : Array Value} (t : GetS w g6 g9 g13 L M u) : GetS w g6 g9 g13 L M u.drew := ⟨t.1.drew, t.2.1, t.2.2⟩
theorem GetS.store {w u : World} {g6 g9 g13 : Nat} {L M : Array Value} (t : GetS w g6 g9 g13 L M u) (h9 : g9 ≠ g6) (h13 : g13 ≠ g6) (hw : w.heap.size ≤ g6) (c d : Value) : GetS w g6 g9 g13 L M ((u.setCell ⟨g6, 0, none⟩ c).setCell ⟨g6, 1, none⟩ d) := by
  obtain ⟨h1, h2, h3, a, b, h4⟩ := t
  exact ⟨below_set2 h1 hw c d, obj_set_other h2 h9 c d, obj_set_other h3 h13 c d, c, d, obj_set2 h4 c d⟩
theorem GetS.mk {w u : World} {g6 g9 : Nat} {L M : Array Value} {h l : Nat} (h1 : Below w.heap.size w u) (h2 : u.heap[g9]? = some (.cells L 95)) (h4 : u.heap[g6]? = some (setO h l)) : GetS w g6 g9 u.heap.size L M (u.alloc (.cells M 95)) :=
  ⟨hbt h1 (below_al _ _), (heap_alloc_old' _ _ _ (obj_lt h2)).trans h2, heap_alloc_new _ _, _, _, (heap_alloc_old' _ _ _ (obj_lt h4)).trans h4⟩

set_option maxRecDepth 100000 in
set_option maxHeartbeats 3200000 in
theorem get_long (st : Nat) (s : ByteArray) (at_ n x m y : Nat) (a0 a1 a2 a3 a4 a5 a6 a7 : Nat) (w : World) (hst : st = 1 ∨ st = 2) (ha : at_ ≤ s.size) (hr : ReadsTo st s at_ (.agg #[.int .u8 (a0 : Int), .int .u8 (a1 : Int), .int .u8 (a2 : Int), .int .u8 (a3 : Int), .int .u8 (a4 : Int), .int .u8 (a5 : Int), .int .u8 (a6 : Int), .int .u8 (a7 : Int)]) n 0)
    (hx : ∀ W, Calls Tryd.prog 42 #[.agg #[.int .u8 (a0 : Int), .int .u8 (a1 : Int), .int .u8 (a2 : Int), .int .u8 (a3 : Int), .int .u8 (a4 : Int), .int .u8 (a5 : Int), .int .u8 (a6 : Int), .int .u8 (a7 : Int)]] W fun e w' => e = .returned (.int .u64 (x : Int)) ∧ Below W.heap.size W w') (bx : x < M64) (h1 : hasN x 0 1 = true) (b0 b1 b2 b3 b4 b5 b6 b7 : Nat) (hr2 : ReadsTo st s n (.agg #[.int .u8 (b0 : Int), .int .u8 (b1 : Int), .int .u8 (b2 : Int), .int .u8 (b3 : Int), .int .u8 (b4 : Int), .int .u8 (b5 : Int), .int .u8 (b6 : Int), .int .u8 (b7 : Int)]) m 0) (hz : ¬ (b0 = 0 ∧ b1 = 0 ∧ b2 = 0 ∧ b3 = 0 ∧ b4 = 0 ∧ b5 = 0 ∧ b6 = 0 ∧ b7 = 0))
    (hy : ∀ W, Calls Tryd.prog 42 #[.agg #[.int .u8 (b0 : Int), .int .u8 (b1 : Int), .int .u8 (b2 : Int), .int .u8 (b3 : Int), .int .u8 (b4 : Int), .int .u8 (b5 : Int), .int .u8 (b6 : Int), .int .u8 (b7 : Int)]] W fun e w' => e = .returned (.int .u64 (y : Int)) ∧ Below W.heap.size W w') (by_ : y < M64) :
    Calls Tryd.prog 19 #[.int .i64 (st : Int), .string s, .int .i64 (at_ : Int)] w fun e w' => e = .returned (.tuple #[setV (x &&& (fullN - aH 1)) (y &&& (fullN - aL 1)), .int .i64 (m : Int), .int .i64 0]) ∧ Below w.heap.size w w' := by
  have HK := Lib.hid (bknown_yes st hst)
  have HR := Lib.hid hr
  unfold ReadsTo at HR
  have HX := Lib.hid hx
  have HBT := Lib.hid (bits_any x 0)
  have HA := Lib.hid (fun W => by have := has_any x 0 1 W bx (by decide); rw [h1] at this; exact this)
  have h2 : decide ((at_ : Int) < 0) = false := by simp
  have h3 : decide (s.size < at_) = false := by simp; omega
  have HR2 := Lib.hid hr2
  unfold ReadsTo at HR2
  have heq := half_eq_no _ _ _ _ _ _ _ _ hz
  have HY := Lib.hid hy
  have HBX := Lib.hid (bits_any x y)
  have HWO := Lib.hid (fun W => without_any x y 1 W bx by_)
  generalize x &&& (fullN - aH 1) = x' at *
  generalize y &&& (fullN - aL 1) = y' at *
  unfold setV at *
  clear hst hr ha hx bx h1 hr2 hz hy by_
  go_enter Tryd.func19, Tryd.ntmps19
  go_wp2_with fail
  refine (HK.out _).mono ?_
  rintro e w1 ⟨rfl, rfl⟩
  go_wp2_with fail
  refine (HR.out _).mono ?_
  rintro e w1 ⟨rfl, hb1⟩
  have h0 := obj_below (heap_alloc_new w (setO 0 0)) hb1
  have HB := Lib.hid (hbt (hbt (below_al _ _) hb1) (below_al _ (.cells #[.int .u8 (a0 : Int), .int .u8 (a1 : Int), .int .u8 (a2 : Int), .int .u8 (a3 : Int), .int .u8 (a4 : Int), .int .u8 (a5 : Int), .int .u8 (a6 : Int), .int .u8 (a7 : Int)] 95)))
  have H0 := Lib.hid ((heap_alloc_old' w1 (.cells #[.int .u8 (a0 : Int), .int .u8 (a1 : Int), .int .u8 (a2 : Int), .int .u8 (a3 : Int), .int .u8 (a4 : Int), .int .u8 (a5 : Int), .int .u8 (a6 : Int), .int .u8 (a7 : Int)] 95) _ (obj_lt h0)).trans h0)
  have HC := Lib.hid (heap_alloc_new w1 (.cells #[.int .u8 (a0 : Int), .int .u8 (a1 : Int), .int .u8 (a2 : Int), .int .u8 (a3 : Int), .int .u8 (a4 : Int), .int .u8 (a5 : Int), .int .u8 (a6 : Int), .int .u8 (a7 : Int)] 95))
  have hne : w.heap.size < w1.heap.size := obj_lt h0
  clear h0 hb1
  go_wp2_with fail
  refine (HX.out _).mono ?_
  rintro e w2 ⟨rfl, hb2⟩
  have H02 := Lib.hid (obj_below H0.out hb2)
  have HC2 := Lib.hid (obj_below HC.out hb2)
  have HB2 := Lib.hid (hbt HB.out hb2)
  clear hb2
  generalize w1.heap.size = g9 at *
  go_wp2_with fail
  refine (HBT.out _).mono ?_
  rintro e w3 ⟨rfl, hb3⟩
  have H03 := Lib.hid ((heap_alloc_old' w3 (setO x 0) _ (obj_lt (obj_below H02.out hb3))).trans (obj_below H02.out hb3))
  have HC3 := Lib.hid ((heap_alloc_old' w3 (setO x 0) _ (obj_lt (obj_below HC2.out hb3))).trans (obj_below HC2.out hb3))
  have HB3 := Lib.hid (hbt (hbt HB2.out hb3) (below_al _ (setO x 0)))
  clear hb3
  go_wp2_with fail
  refine (HA.out _).mono ?_
  rintro e w4 ⟨rfl, hb4⟩
  have H04 := Lib.hid (obj_below H03.out hb4)
  have HC4 := Lib.hid (obj_below HC3.out hb4)
  have HB4 := Lib.hid (hbt HB3.out hb4)
  clear hb4
  go_wp2_with fail
  refine (HR2.out _).mono ?_
  rintro e w5 ⟨rfl, hb5⟩
  have h0 := obj_below H04.out hb5
  have H05 := Lib.hid h0
  have HC5 := Lib.hid (obj_below HC4.out hb5)
  have HB5 := Lib.hid (hbt HB4.out hb5)
  have HS0 := Lib.hid (GetS.mk (g6 := w.heap.size) (g9 := g9) (L := #[.int .u8 (a0 : Int), .int .u8 (a1 : Int), .int .u8 (a2 : Int), .int .u8 (a3 : Int), .int .u8 (a4 : Int), .int .u8 (a5 : Int), .int .u8 (a6 : Int), .int .u8 (a7 : Int)]) (M := #[.int .u8 (b0 : Int), .int .u8 (b1 : Int), .int .u8 (b2 : Int), .int .u8 (b3 : Int), .int .u8 (b4 : Int), .int .u8 (b5 : Int), .int .u8 (b6 : Int), .int .u8 (b7 : Int)]) HB5.out HC5.out h0)
  have hl := obj_lt h0
  clear hb5 h0
  go_wp2_with fail
  refine wp_region_noPanic ?_
  refine wp_region_held_drew (S := (GetS w w.heap.size g9 w5.heap.size #[.int .u8 (a0 : Int), .int .u8 (a1 : Int), .int .u8 (a2 : Int), .int .u8 (a3 : Int), .int .u8 (a4 : Int), .int .u8 (a5 : Int), .int .u8 (a6 : Int), .int .u8 (a7 : Int)] #[.int .u8 (b0 : Int), .int .u8 (b1 : Int), .int .u8 (b2 : Int), .int .u8 (b3 : Int), .int .u8 (b4 : Int), .int .u8 (b5 : Int), .int .u8 (b6 : Int), .int .u8 (b7 : Int)])) (by kernel_rfl) (HS0.out.drew) (fun hS => ?_)
  refine give_val (i := 0) (v := ?_) rfl (by kernel_rfl) (by kernel_rfl) (by kernel_rfl) (fun _ _ _ h => h) (by rfl) (fun u hu => ?_) hS ?_
  rotate_left
  · ((obtain ⟨_, hu2, hu3, _⟩ := hu; obtain ⟨⟨c0, c1, c2, c3, c4, c5, c6, c7⟩, _⟩ := obj_cells8 hu2; obtain ⟨⟨d0, d1, d2, d3, d4, d5, d6, d7⟩, _⟩ := obj_cells8 hu3; clear hu2 hu3); go_simp; try (with_reducible rfl))
  try simp only [Act.put, List.setIfInBounds_toArray, List.set_cons_zero, List.set_cons_succ]
  refine give_val (i := 2) (v := ?_) rfl (by kernel_rfl) (by kernel_rfl) (by kernel_rfl) (fun _ _ _ h => h) (by rfl) (fun u hu => ?_) hS ?_
  rotate_left
  · ((obtain ⟨_, hu2, hu3, _⟩ := hu; obtain ⟨⟨c0, c1, c2, c3, c4, c5, c6, c7⟩, _⟩ := obj_cells8 hu2; obtain ⟨⟨d0, d1, d2, d3, d4, d5, d6, d7⟩, _⟩ := obj_cells8 hu3; clear hu2 hu3); go_simp; try (with_reducible rfl))
  try simp only [Act.put, List.setIfInBounds_toArray, List.set_cons_zero, List.set_cons_succ]
  refine give_val (i := 6) (v := ?_) rfl (by kernel_rfl) (by kernel_rfl) (by kernel_rfl) (fun _ _ _ h => h) (by rfl) (fun u hu => ?_) hS ?_
  rotate_left
  · ((obtain ⟨_, hu2, hu3, _⟩ := hu; obtain ⟨⟨c0, c1, c2, c3, c4, c5, c6, c7⟩, _⟩ := obj_cells8 hu2; obtain ⟨⟨d0, d1, d2, d3, d4, d5, d6, d7⟩, _⟩ := obj_cells8 hu3; clear hu2 hu3); go_simp; try (with_reducible rfl))
  try simp only [Act.put, List.setIfInBounds_toArray, List.set_cons_zero, List.set_cons_succ]
  refine only_call (i := 1) 42 #[.agg #[.int .u8 (a0 : Int), .int .u8 (a1 : Int), .int .u8 (a2 : Int), .int .u8 (a3 : Int), .int .u8 (a4 : Int), .int .u8 (a5 : Int), .int .u8 (a6 : Int), .int .u8 (a7 : Int)]] rfl (by kernel_rfl) (by rfl) ((HX.out _).mono fun e w' he => ⟨he.1, hS.below he.2⟩) ?_ ?_
  · (go_simp; try (with_reducible rfl))
  clear hS
  intro w1 hS
  try simp only [Act.put, List.setIfInBounds_toArray, List.set_cons_zero, List.set_cons_succ]
  refine only_call (i := 3) 42 #[.agg #[.int .u8 (b0 : Int), .int .u8 (b1 : Int), .int .u8 (b2 : Int), .int .u8 (b3 : Int), .int .u8 (b4 : Int), .int .u8 (b5 : Int), .int .u8 (b6 : Int), .int .u8 (b7 : Int)]] rfl (by kernel_rfl) (by rfl) ((HY.out _).mono fun e w' he => ⟨he.1, hS.below he.2⟩) ?_ ?_
  · (go_simp; try (with_reducible rfl))
  clear hS
  intro w3 hS
  try simp only [Act.put, List.setIfInBounds_toArray, List.set_cons_zero, List.set_cons_succ]
  refine only_call (i := 4) 41 #[.int .u64 (x : Int), .int .u64 (y : Int)] rfl (by kernel_rfl) (by rfl) ((HBX.out _).mono fun e w' he => ⟨he.1, hS.below he.2⟩) ?_ ?_
  · (go_simp; try (with_reducible rfl))
  clear hS
  intro w4 hS
  try simp only [Act.put, List.setIfInBounds_toArray, List.set_cons_zero, List.set_cons_succ]
  refine only_call (i := 5) 44 #[.agg #[.int .u64 (x : Int), .int .u64 (y : Int)], .int .i64 1] rfl (by kernel_rfl) (by rfl) ((HWO.out _).mono fun e w' he => ⟨he.1, hS.below he.2⟩) ?_ ?_
  · (go_simp; try (with_reducible rfl))
  clear hS
  intro w5 hS
  try simp only [Act.put, List.setIfInBounds_toArray, List.set_cons_zero, List.set_cons_succ]
  refine only (i := 7) rfl (by kernel_rfl) (by rfl) (fun K hK => ?_)
  obtain ⟨hS1, hS2, hS3, a, b, hS4⟩ := id hS
  obtain ⟨c0, c1, f0, f1⟩ := obj_cells hS4
  go_simp
  have hr := obj_set2 hS4 (.int .u64 (x' : Int)) (.int .u64 (y' : Int))
  have hS9 := hS.store (by omega) (by omega) (by omega) (.int .u64 (x' : Int)) (.int .u64 (y' : Int))
  refine hK.out _ _ hS9 ?_
  clear hK
  try simp only [Act.put, List.setIfInBounds_toArray, List.set_cons_zero, List.set_cons_succ]
  clear c0 c1 f0 f1 hS1 hS2 hS3 hS4 hS
  have hS := hS9; clear hS9
  refine give_val (i := 8) (v := ?_) rfl (by kernel_rfl) (by kernel_rfl) (by kernel_rfl) (fun _ _ _ h => h) (by rfl) (fun u hu => ?_) hS ?_
  rotate_left
  · ((obtain ⟨_, hu2, hu3, _⟩ := hu; obtain ⟨⟨c0, c1, c2, c3, c4, c5, c6, c7⟩, _⟩ := obj_cells8 hu2; obtain ⟨⟨d0, d1, d2, d3, d4, d5, d6, d7⟩, _⟩ := obj_cells8 hu3; clear hu2 hu3); go_simp; try (with_reducible rfl))
  try simp only [Act.put, List.setIfInBounds_toArray, List.set_cons_zero, List.set_cons_succ]
  refine give_val (i := 9) (v := ?_) rfl (by kernel_rfl) (by kernel_rfl) (by kernel_rfl) (fun _ _ _ h => h) (by rfl) (fun u hu => ?_) hS ?_
  rotate_left
  · ((obtain ⟨_, hu2, hu3, _⟩ := hu; obtain ⟨⟨c0, c1, c2, c3, c4, c5, c6, c7⟩, _⟩ := obj_cells8 hu2; obtain ⟨⟨d0, d1, d2, d3, d4, d5, d6, d7⟩, _⟩ := obj_cells8 hu3; clear hu2 hu3); go_simp; try (with_reducible rfl))
  try simp only [Act.put, List.setIfInBounds_toArray, List.set_cons_zero, List.set_cons_succ]
  refine wpAnyH_done (by kernel_rfl) (NoPanic.normal ?_) _
  have hb := hS.1
  clear hS
  generalize ((w5.setCell _ _).setCell _ _) = w9 at *
  go_wp2
  refine bodyPost_ret (results_cell_row2 rfl _ _ w.heap.size _ _ _ _ rfl hr Tryd.underlying52 rfl (by kernel_rfl)) rfl ?_
  exact ⟨rfl, hb⟩

end Go.Proofs.YtlkpiapmdflahaaDoor

/-
  What the document's part of a bitmap is: for both styles, every text and place, in every world.
-/
namespace Go.Proofs.YtlkpiapmdflahaaDoor
open Go.RowKit

theorem part_cut (st : Nat) (s : ByteArray) (at_ f : Nat) (w : World) (hst : st = 1 ∨ st = 2) (_hs : s.size ≤ 1000000) (ha : at_ ≤ s.size) (h : s.size < at_ + bwid st) :
    Calls Tryd.prog 50 #[.int .i64 (st : Int), .string s, .int .i64 (at_ : Int), .int .i64 (f : Int)] w fun e w' => e = .returned (.tuple #[.slice none 0 0, .int .i64 2]) ∧ Below w.heap.size w w' := by
  rcases hst with rfl | rfl
  · have h' : s.size < at_ + 16 := h
    clear h
    go_enter Tryd.func50, Tryd.ntmps50
    go_wp2
    go_ret2
    exact ⟨rfl, Below.refl _ _⟩
  · have h' : s.size < at_ + 8 := h
    clear h
    go_enter Tryd.func50, Tryd.ntmps50
    go_wp2
    go_ret2
    exact ⟨rfl, Below.refl _ _⟩

theorem part_bad (s : ByteArray) (at_ f : Nat) (w : World) (hs : s.size ≤ 1000000) (h : at_ + 16 ≤ s.size) (hx : hgetB (s.extract at_ (at_ + 16)).data.toList = false) :
    Calls Tryd.prog 50 #[.int .i64 1, .string s, .int .i64 (at_ : Int), .int .i64 (f : Int)] w fun e w' => e = .returned (.tuple #[.slice none 0 0, .int .i64 3]) ∧ Below w.heap.size w w' := by
  have hsl : (s.extract at_ (at_ + 16)).size = 16 := by simp; omega
  have hg := fun W => hrefGet_any (s.extract at_ (at_ + 16)) W (by rw [hsl]; omega)
  rw [hx, hgetS_no hx] at hg
  generalize hgetI (s.extract at_ (at_ + 16)).data.toList = z at hg
  have HG := Lib.hid hg; clear hg hx
  go_enter Tryd.func50, Tryd.ntmps50
  go_wp2_with fail
  refine (HG.out _).mono ?_
  rintro e w1 ⟨rfl, hb1⟩
  go_wp2
  go_ret2
  exact ⟨rfl, hb1⟩

theorem own_cap {w : World} {base e size g n c : Nat} {xs : List Value} (h : w.ownsRow base e size (.slice (some ⟨g, 0, none⟩) n c) n xs) : n ≤ c := by
  rcases h.2 with ⟨h1, _⟩ | ⟨g', cap, cur, h1, hb, _, hle, _⟩
  · cases h1
  · injection h1 with h1 h2 h3
    omega

theorem bitL_at (t : ByteArray) (k j : Nat) (hk : k < t.size) (hj : j < 8) : bitL t.data.toList (8 * k + j) = t[k].toNat.testBit (7 - j) := by
  unfold bitL
  rw [show (8 * k + j) / 8 = k by omega, show (8 * k + j) % 8 = j by omega]
  have : t.data.toList.getD k 0 = t[k] := by
    rw [List.getD_eq_getElem?_getD, List.getElem?_eq_getElem (by rw [Array.length_toList]; exact hk), Option.getD_some]
    rfl
  rw [this]

theorem byte_at (t : ByteArray) (k : Nat) (hk : k < t.size) : ∃ c : Nat, c < 256 ∧ (∀ W : World, (Instr.index 9 (.string t) (.int .i64 (k : Int))).run Tryd.prog W = .ok (.int .u8 (c : Int)) W) ∧ ∀ j, j < 8 → bitL t.data.toList (8 * k + j) = c.testBit (7 - j) :=
  ⟨t[k].toNat, t[k].toNat_lt, ix_str t k hk, fun j hj => bitL_at t k j hk hj⟩

set_option maxRecDepth 100000 in
set_option maxHeartbeats 3200000 in
theorem part_ok2 (s : ByteArray) (at_ f : Nat) (w : World) (hs : s.size ≤ 1000000) (h : at_ + 8 ≤ s.size) (hf : f ≤ 1000) :
    Calls Tryd.prog 50 #[.int .i64 2, .string s, .int .i64 (at_ : Int), .int .i64 (f : Int)] w fun e w' => ∃ g cap : Nat, e = .returned (.tuple #[.slice (some ⟨g, 0, none⟩) (partL ((s.extract at_ (at_ + 8)).data.toList) f 64).length cap, .int .i64 0]) ∧ Ints w' (some ⟨g, 0, none⟩) (zi (partL ((s.extract at_ (at_ + 8)).data.toList) f 64)) ∧ (partL ((s.extract at_ (at_ + 8)).data.toList) f 64).length ≤ cap ∧ Below w.heap.size w w' := by
  obtain ⟨i0, hi, hz0, hz1, hz2⟩ := info_parts Tryd.infoX64
  have hsl : (s.extract at_ (at_ + 8)).size = 8 := by simp; omega
  go_enter Tryd.func50, Tryd.ntmps50
  go_wp2
  go_loopw [15, 16, 17, 18, 19] (fun v i _ _ _ wr => ∃ k len cap g : Nat, (k ≤ 8 ∧ len = (partL (s.extract at_ (at_ + 8)).data.toList f (8 * k)).length) ∧ i = .int .i64 (k : Int) ∧ v = .slice (some ⟨g, 0, none⟩) len cap ∧ wr.ownsRow w.heap.size 3 1 (.slice (some ⟨g, 0, none⟩) len cap) len ((partL (s.extract at_ (at_ + 8)).data.toList f (8 * k)).map iv) ∧ Below w.heap.size w wr) (fun _ i _ _ _ _ => 8 - (intOf i).toNat)
  case atStart => exact ⟨0, 0, 0, w.heap.size, ⟨by omega, rfl⟩, rfl, rfl, World.ownsRow_lit w #[] 0 (Nat.le_refl _) (by unfold maxLen; omega) rfl, below_al _ _⟩
  case round =>
    obtain ⟨k, len, cap, g, hk, rfl, rfl, hown, hb⟩ := hrel
    have HK := Lib.hid hk
    by_cases hlt : k < 8
    · have hd : decide ((k : Int) < 8) = true := by simp; omega
      have hk8 : k ≤ 8 := by omega
      obtain ⟨z, hc, hix, hbt⟩ := byte_at (s.extract at_ (at_ + 8)) k (by omega)
      have HBT := Lib.hid hbt
      have HCL := Lib.hid hc
      have HLT := Lib.hid hlt
      have HOW := Lib.hid hown
      have HB := Lib.hid hb
      clear hc hbt hlt hown hb hk
      go_wp2
      clear hd hix
      go_loopw [15, 17, 18, 19] (fun v x o i wr => ∃ j len cap g : Nat, (j ≤ 8 ∧ len = (partL (s.extract at_ (at_ + 8)).data.toList f (8 * k + j)).length) ∧ i = .int .i64 (j : Int) ∧ x = .int .u8 ((z % 2 ^ (8 - j) : Nat) : Int) ∧ o = .int .u8 ((128 / 2 ^ j : Nat) : Int) ∧ v = .slice (some ⟨g, 0, none⟩) len cap ∧ wr.ownsRow w.heap.size 3 1 (.slice (some ⟨g, 0, none⟩) len cap) len ((partL (s.extract at_ (at_ + 8)).data.toList f (8 * k + j)).map iv) ∧ Below w.heap.size w wr) (fun _ _ _ i _ => 8 - (intOf i).toNat)
      case atStart => exact ⟨0, len, cap, g, ⟨by omega, HK.out.2⟩, rfl, by have := HCL.out; rw [show z % 2 ^ (8 - 0) = z by omega], rfl, rfl, HOW.out, HB.out⟩
      case round =>
        obtain ⟨j, len, cap, g, hj, rfl, rfl, rfl, rfl, hown, hb⟩ := hrel
        have HJ := Lib.hid hj
        have HOW2 := Lib.hid hown
        have HB2 := Lib.hid hb
        have hbz := hb.size
        have hlen : len ≤ 72 := by have := partL_len (s.extract at_ (at_ + 8)).data.toList f (8 * k + j); omega
        clear HOW HB hown hb
        by_cases hjt : j < 8
        · obtain ⟨⟨hX, hO, hO1⟩, hO2, hyes, hno⟩ := bit_step z j HCL.out hjt
          have hps := partL_succ (s.extract at_ (at_ + 8)).data.toList f (8 * k + j)
          rw [HBT.out j hjt] at hps
          have hj8 : j ≤ 8 := by omega
          have hdj : decide ((j : Int) < 8) = true := by simp; omega
          have HJT := Lib.hid hjt
          have HO2 := Lib.hid hO2
          clear hj hjt hO2
          generalize z % 2 ^ (8 - j) = X at *
          generalize hOO : 128 / 2 ^ j = O at *
          generalize hXX : z % 2 ^ (8 - (j + 1)) = X' at *
          generalize hPP : 128 / 2 ^ (j + 1) = O' at *
          have HXX := Lib.hid hXX; have HPP := Lib.hid hPP
          have hdv : (O : Int) / 2 = (O' : Int) := by have := HO2.out; omega
          have hdm : (O' : Int) % 256 = (O' : Int) := by have := HO2.out; omega
          obtain ⟨n, hn⟩ : ∃ n, n = f + (8 * k + j) := ⟨_, rfl⟩
          have hn' : (f : Int) + 8 * (k : Int) + (j : Int) = (n : Int) := by omega
          have hnb : n ≤ 1200 := by omega
          rw [← hn] at hps
          clear hOO hXX hPP hn
          cases hb : z.testBit (7 - j)
          · obtain ⟨h1, h2⟩ := hno hb
            rw [hb] at hps
            have HPS := Lib.hid hps
            have hge : decide (O ≤ X) = false := by simp; omega
            have H12 := Lib.hid h2
            have HX1 := Lib.hid hX; have HO1 := Lib.hid hO; have HO3 := Lib.hid hO1
            clear hyes hno hb hps h1 h2 hX hO hO1
            go_wp2
            go_roundw
            case rel =>
              have hp := HPS.out
              rw [if_neg (by simp), List.append_nil] at hp
              exact ⟨j + 1, len, cap, g, ⟨by have := HJT.out; omega, by rw [show 8 * k + (j + 1) = 8 * k + j + 1 by omega, hp]; exact HJ.out.2⟩, by go_num, by rw [HXX.out, H12.out], by rw [HPP.out], rfl, by rw [show 8 * k + (j + 1) = 8 * k + j + 1 by omega, hp]; exact HOW2.out, HB2.out⟩
            case measure => have := HJT.out; simp [intOf]; omega
          · obtain ⟨h1, h2⟩ := hyes hb
            rw [hb] at hps
            have HPS := Lib.hid hps
            have hge : decide (O ≤ X) = true := by simp; omega
            have hsub : (X : Int) - (O : Int) = (X' : Int) := by omega
            have hX'b : (X' : Int) < 1000 := by omega
            have hwr : IntKind.u8.wrap (X' : Int) = (X' : Int) := by rw [IntKind.wrap_u8]; omega
            have HX1 := Lib.hid hX; have HO1 := Lib.hid hO; have HO3 := Lib.hid hO1
            clear hyes hno hb hps h1 h2 hX hO hO1
            go_wp2_with (at_builtin; refine wpList_append_lies _ rfl _ _ _ rfl w.heap.size 3 i0 _ 1 8 Tryd.underlying61 hi hz0 hz1 hz2 rfl (by omega) (.slice (some ⟨g, 0, none⟩) len cap) len _ rfl (HOW2.out.alloc _) ⟨wr.heap.size, 0, none⟩ 1 1 [.int .i64 (n : Int)] rfl rfl (World.news_of_block (cs := #[.int .i64 (n : Int)]) (t := 3) (fr := (0, 0)) (heap_alloc_new wr _)) (by simp [Value.oneCell']) (by omega) (by unfold maxLen; omega) (by omega) (by simp; omega) (wr.heap.size + 1) (by simp) ?_; intro g' cap' w2 hown2 hgrow hat hlt2)
            have hb2 : Below w.heap.size w w2 := (HB2.out.alloc hbz _).grown hgrow (by simp; omega) (by intro q hq; have := own_base HOW2.out; simp [Value.ownBlock] at hq; omega)
            have HW2 := Lib.hid hown2; clear hown2 hgrow hat hlt2
            go_wp2
            go_roundw
            case rel =>
              have hp := HPS.out
              rw [if_pos rfl] at hp
              exact ⟨j + 1, len + 1, cap', g', ⟨by have := HJT.out; omega, by rw [show 8 * k + (j + 1) = 8 * k + j + 1 by omega, hp, List.length_append, ← HJ.out.2]; rfl⟩, by go_num, by rw [HXX.out], by rw [HPP.out], rfl, by rw [show 8 * k + (j + 1) = 8 * k + j + 1 by omega, hp, List.map_append]; exact HW2.out, hb2⟩
            case measure => have := HJT.out; simp [intOf]; omega
        · obtain rfl : j = 8 := by omega
          go_wp2
          go_roundw
          case rel => exact ⟨k + 1, len, cap, g, ⟨by have := HLT.out; omega, HJ.out.2⟩, by go_num, rfl, HOW2.out, HB2.out⟩
          case measure => have := HLT.out; simp [intOf]; omega
    · obtain rfl : k = 8 := by omega
      have HOW := Lib.hid hown
      have HB := Lib.hid hb
      clear hown hb hk
      go_wp2
      go_ret2
      have h2 := HK.out.2
      exact ⟨g, cap, by rw [← h2]; rfl, ints_own HOW.out h2.symm, by rw [← h2]; exact own_cap HOW.out, HB.out⟩

set_option maxRecDepth 100000 in
set_option maxHeartbeats 3200000 in
theorem part_ok1 (s : ByteArray) (at_ f : Nat) (w : World) (hs : s.size ≤ 1000000) (h : at_ + 16 ≤ s.size) (hf : f ≤ 1000) (hx : hgetB (s.extract at_ (at_ + 16)).data.toList = true) :
    Calls Tryd.prog 50 #[.int .i64 1, .string s, .int .i64 (at_ : Int), .int .i64 (f : Int)] w fun e w' => ∃ g cap : Nat, e = .returned (.tuple #[.slice (some ⟨g, 0, none⟩) (partL (hgetL (s.extract at_ (at_ + 16)).data.toList) f 64).length cap, .int .i64 0]) ∧ Ints w' (some ⟨g, 0, none⟩) (zi (partL (hgetL (s.extract at_ (at_ + 16)).data.toList) f 64)) ∧ (partL (hgetL (s.extract at_ (at_ + 16)).data.toList) f 64).length ≤ cap ∧ Below w.heap.size w w' := by
  obtain ⟨i0, hi, hz0, hz1, hz2⟩ := info_parts Tryd.infoX64
  have hs1 : (s.extract at_ (at_ + 16)).size = 16 := by simp; omega
  have hg := fun W => hrefGet_any (s.extract at_ (at_ + 16)) W (by rw [hs1]; omega)
  rw [hx, hgetS_yes hx, hgetI_yes hx] at hg
  have hsl : (⟨(hgetL (s.extract at_ (at_ + 16)).data.toList).toArray⟩ : ByteArray).size = 8 := by
    show (hgetL (s.extract at_ (at_ + 16)).data.toList).toArray.size = 8
    rw [List.size_toArray, hgetL_length, Array.length_toList]
    show (s.extract at_ (at_ + 16)).size / 2 = 8
    omega
  have hq : hgetL (s.extract at_ (at_ + 16)).data.toList = (⟨(hgetL (s.extract at_ (at_ + 16)).data.toList).toArray⟩ : ByteArray).data.toList := rfl
  rw [hq]
  clear hq hx
  generalize (⟨(hgetL (s.extract at_ (at_ + 16)).data.toList).toArray⟩ : ByteArray) = t at *
  have HG := Lib.hid hg; clear hg hs1
  go_enter Tryd.func50, Tryd.ntmps50
  go_wp2_with fail
  refine (HG.out _).mono ?_
  rintro e w1 ⟨rfl, hb1⟩
  have HB1 := Lib.hid hb1
  clear hb1
  go_wp2
  go_loopw [15, 16, 17, 18, 19] (fun v i _ _ _ wr => ∃ k len cap g : Nat, (k ≤ 8 ∧ len = (partL t.data.toList f (8 * k)).length) ∧ i = .int .i64 (k : Int) ∧ v = .slice (some ⟨g, 0, none⟩) len cap ∧ wr.ownsRow w.heap.size 3 1 (.slice (some ⟨g, 0, none⟩) len cap) len ((partL t.data.toList f (8 * k)).map iv) ∧ Below w.heap.size w wr) (fun _ i _ _ _ _ => 8 - (intOf i).toNat)
  case atStart => exact ⟨0, 0, 0, w1.heap.size, ⟨by omega, rfl⟩, rfl, rfl, World.ownsRow_lit w1 #[] 0 (HB1.out.size) (by unfold maxLen; omega) rfl, hbt HB1.out (below_al _ _)⟩
  case round =>
    obtain ⟨k, len, cap, g, hk, rfl, rfl, hown, hb⟩ := hrel
    have HK := Lib.hid hk
    by_cases hlt : k < 8
    · have hd : decide ((k : Int) < 8) = true := by simp; omega
      have hk8 : k ≤ 8 := by omega
      obtain ⟨z, hc, hix, hbt⟩ := byte_at t k (by omega)
      have HBT := Lib.hid hbt
      have HCL := Lib.hid hc
      have HLT := Lib.hid hlt
      have HOW := Lib.hid hown
      have HB := Lib.hid hb
      clear hc hbt hlt hown hb hk
      go_wp2
      clear hd hix
      go_loopw [15, 17, 18, 19] (fun v x o i wr => ∃ j len cap g : Nat, (j ≤ 8 ∧ len = (partL t.data.toList f (8 * k + j)).length) ∧ i = .int .i64 (j : Int) ∧ x = .int .u8 ((z % 2 ^ (8 - j) : Nat) : Int) ∧ o = .int .u8 ((128 / 2 ^ j : Nat) : Int) ∧ v = .slice (some ⟨g, 0, none⟩) len cap ∧ wr.ownsRow w.heap.size 3 1 (.slice (some ⟨g, 0, none⟩) len cap) len ((partL t.data.toList f (8 * k + j)).map iv) ∧ Below w.heap.size w wr) (fun _ _ _ i _ => 8 - (intOf i).toNat)
      case atStart => exact ⟨0, len, cap, g, ⟨by omega, HK.out.2⟩, rfl, by have := HCL.out; rw [show z % 2 ^ (8 - 0) = z by omega], rfl, rfl, HOW.out, HB.out⟩
      case round =>
        obtain ⟨j, len, cap, g, hj, rfl, rfl, rfl, rfl, hown, hb⟩ := hrel
        have HJ := Lib.hid hj
        have HOW2 := Lib.hid hown
        have HB2 := Lib.hid hb
        have hbz := hb.size
        have hlen : len ≤ 72 := by have := partL_len t.data.toList f (8 * k + j); omega
        clear HOW HB hown hb
        by_cases hjt : j < 8
        · obtain ⟨⟨hX, hO, hO1⟩, hO2, hyes, hno⟩ := bit_step z j HCL.out hjt
          have hps := partL_succ t.data.toList f (8 * k + j)
          rw [HBT.out j hjt] at hps
          have hj8 : j ≤ 8 := by omega
          have hdj : decide ((j : Int) < 8) = true := by simp; omega
          have HJT := Lib.hid hjt
          have HO2 := Lib.hid hO2
          clear hj hjt hO2
          generalize z % 2 ^ (8 - j) = X at *
          generalize hOO : 128 / 2 ^ j = O at *
          generalize hXX : z % 2 ^ (8 - (j + 1)) = X' at *
          generalize hPP : 128 / 2 ^ (j + 1) = O' at *
          have HXX := Lib.hid hXX; have HPP := Lib.hid hPP
          have hdv : (O : Int) / 2 = (O' : Int) := by have := HO2.out; omega
          have hdm : (O' : Int) % 256 = (O' : Int) := by have := HO2.out; omega
          obtain ⟨n, hn⟩ : ∃ n, n = f + (8 * k + j) := ⟨_, rfl⟩
          have hn' : (f : Int) + 8 * (k : Int) + (j : Int) = (n : Int) := by omega
          have hnb : n ≤ 1200 := by omega
          rw [← hn] at hps
          clear hOO hXX hPP hn
          cases hb : z.testBit (7 - j)
          · obtain ⟨h1, h2⟩ := hno hb
            rw [hb] at hps
            have HPS := Lib.hid hps
            have hge : decide (O ≤ X) = false := by simp; omega
            have H12 := Lib.hid h2
            have HX1 := Lib.hid hX; have HO1 := Lib.hid hO; have HO3 := Lib.hid hO1
            clear hyes hno hb hps h1 h2 hX hO hO1
            go_wp2
            go_roundw
            case rel =>
              have hp := HPS.out
              rw [if_neg (by simp), List.append_nil] at hp
              exact ⟨j + 1, len, cap, g, ⟨by have := HJT.out; omega, by rw [show 8 * k + (j + 1) = 8 * k + j + 1 by omega, hp]; exact HJ.out.2⟩, by go_num, by rw [HXX.out, H12.out], by rw [HPP.out], rfl, by rw [show 8 * k + (j + 1) = 8 * k + j + 1 by omega, hp]; exact HOW2.out, HB2.out⟩
            case measure => have := HJT.out; simp [intOf]; omega
          · obtain ⟨h1, h2⟩ := hyes hb
            rw [hb] at hps
            have HPS := Lib.hid hps
            have hge : decide (O ≤ X) = true := by simp; omega
            have hsub : (X : Int) - (O : Int) = (X' : Int) := by omega
            have hX'b : (X' : Int) < 1000 := by omega
            have hwr : IntKind.u8.wrap (X' : Int) = (X' : Int) := by rw [IntKind.wrap_u8]; omega
            have HX1 := Lib.hid hX; have HO1 := Lib.hid hO; have HO3 := Lib.hid hO1
            clear hyes hno hb hps h1 h2 hX hO hO1
            go_wp2_with (at_builtin; refine wpList_append_lies _ rfl _ _ _ rfl w.heap.size 3 i0 _ 1 8 Tryd.underlying61 hi hz0 hz1 hz2 rfl (by omega) (.slice (some ⟨g, 0, none⟩) len cap) len _ rfl (HOW2.out.alloc _) ⟨wr.heap.size, 0, none⟩ 1 1 [.int .i64 (n : Int)] rfl rfl (World.news_of_block (cs := #[.int .i64 (n : Int)]) (t := 3) (fr := (0, 0)) (heap_alloc_new wr _)) (by simp [Value.oneCell']) (by omega) (by unfold maxLen; omega) (by omega) (by simp; omega) (wr.heap.size + 1) (by simp) ?_; intro g' cap' w2 hown2 hgrow hat hlt2)
            have hb2 : Below w.heap.size w w2 := (HB2.out.alloc hbz _).grown hgrow (by simp; omega) (by intro q hq; have := own_base HOW2.out; simp [Value.ownBlock] at hq; omega)
            have HW2 := Lib.hid hown2; clear hown2 hgrow hat hlt2
            go_wp2
            go_roundw
            case rel =>
              have hp := HPS.out
              rw [if_pos rfl] at hp
              exact ⟨j + 1, len + 1, cap', g', ⟨by have := HJT.out; omega, by rw [show 8 * k + (j + 1) = 8 * k + j + 1 by omega, hp, List.length_append, ← HJ.out.2]; rfl⟩, by go_num, by rw [HXX.out], by rw [HPP.out], rfl, by rw [show 8 * k + (j + 1) = 8 * k + j + 1 by omega, hp, List.map_append]; exact HW2.out, hb2⟩
            case measure => have := HJT.out; simp [intOf]; omega
        · obtain rfl : j = 8 := by omega
          go_wp2
          go_roundw
          case rel => exact ⟨k + 1, len, cap, g, ⟨by have := HLT.out; omega, HJ.out.2⟩, by go_num, rfl, HOW2.out, HB2.out⟩
          case measure => have := HLT.out; simp [intOf]; omega
    · obtain rfl : k = 8 := by omega
      have HOW := Lib.hid hown
      have HB := Lib.hid hb
      clear hown hb hk
      go_wp2
      go_ret2
      have h2 := HK.out.2
      exact ⟨g, cap, by rw [← h2]; rfl, ints_own HOW.out h2.symm, by rw [← h2]; exact own_cap HOW.out, HB.out⟩

/-- Both styles. -/
theorem part_ok (st : Nat) (s : ByteArray) (at_ f : Nat) (w : World) (hst : st = 1 ∨ st = 2) (hs : s.size ≤ 1000000) (h : at_ + bwid st ≤ s.size) (hf : f ≤ 1000) (hx : rdB st (s.extract at_ (at_ + bwid st)).data.toList = true) :
    Calls Tryd.prog 50 #[.int .i64 (st : Int), .string s, .int .i64 (at_ : Int), .int .i64 (f : Int)] w fun e w' => ∃ g cap : Nat, e = .returned (.tuple #[.slice (some ⟨g, 0, none⟩) (partL (rdL st (s.extract at_ (at_ + bwid st)).data.toList) f 64).length cap, .int .i64 0]) ∧ Ints w' (some ⟨g, 0, none⟩) (zi (partL (rdL st (s.extract at_ (at_ + bwid st)).data.toList) f 64)) ∧ (partL (rdL st (s.extract at_ (at_ + bwid st)).data.toList) f 64).length ≤ cap ∧ Below w.heap.size w w' := by
  rcases hst with rfl | rfl
  · exact part_ok1 s at_ f w hs h hf hx
  · exact part_ok2 s at_ f w hs h hf
theorem part_no (st : Nat) (s : ByteArray) (at_ f : Nat) (w : World) (hst : st = 1 ∨ st = 2) (hs : s.size ≤ 1000000) (h : at_ + bwid st ≤ s.size) (hx : rdB st (s.extract at_ (at_ + bwid st)).data.toList = false) :
    Calls Tryd.prog 50 #[.int .i64 (st : Int), .string s, .int .i64 (at_ : Int), .int .i64 (f : Int)] w fun e w' => e = .returned (.tuple #[.slice none 0 0, .int .i64 3]) ∧ Below w.heap.size w w' := by
  rcases hst with rfl | rfl
  · exact part_bad s at_ f w hs h hx
  · cases hx

end Go.Proofs.YtlkpiapmdflahaaDoor

/-
  What the document's Get answers, by what part does: for every style, text and place, in every world.
-/
namespace Go.Proofs.YtlkpiapmdflahaaDoor
open Go.RowKit

theorem refGet_style (st : Int) (s : ByteArray) (at_ : Int) (w : World) (h1 : st ≠ 1) (h2 : st ≠ 2) :
    Calls Tryd.prog 24 #[.int .i64 st, .string s, .int .i64 at_] w fun e w' => e = .returned (.tuple #[.slice none 0 0, .int .i64 0, .int .i64 1]) ∧ Below w.heap.size w w' := by
  have k1 : (st != 1) = true := by simp [h1]
  have k2 : (st != 2) = true := by simp [h2]
  clear h1 h2
  go_enter Tryd.func24, Tryd.ntmps24
  go_wp2
  go_ret3
  exact ⟨rfl, Below.refl _ _⟩
theorem refGet_place (st : Nat) (s : ByteArray) (at_ : Int) (w : World) (hst : st = 1 ∨ st = 2) (ha : at_ < 0 ∨ (s.size : Int) < at_) :
    Calls Tryd.prog 24 #[.int .i64 (st : Int), .string s, .int .i64 at_] w fun e w' => e = .returned (.tuple #[.slice none 0 0, .int .i64 0, .int .i64 1]) ∧ Below w.heap.size w w' := by
  by_cases h0 : at_ < 0
  · clear ha
    have k1 : decide (at_ < 0) = true := by simp [h0]
    clear h0
    rcases hst with rfl | rfl
    all_goals
      go_enter Tryd.func24, Tryd.ntmps24
      go_wp2
      go_ret3
      exact ⟨rfl, Below.refl _ _⟩
  · have h1 : (s.size : Int) < at_ := by omega
    have k1 : decide (at_ < 0) = false := by simp; omega
    clear ha h0
    rcases hst with rfl | rfl
    all_goals
      go_enter Tryd.func24, Tryd.ntmps24
      go_wp2
      go_ret3
      exact ⟨rfl, Below.refl _ _⟩

/-- What part answers, as the walks of Get take it. -/
def PartE (st : Int) (s : ByteArray) (p f : Int) (n : Nat) : Prop :=
  ∀ W, Calls Tryd.prog 50 #[.int .i64 st, .string s, .int .i64 p, .int .i64 f] W fun r w' => r = .returned (.tuple #[.slice none 0 0, .int .i64 (n : Int)]) ∧ Below W.heap.size W w'
def PartL (st : Int) (s : ByteArray) (p f : Int) (L : List Nat) : Prop :=
  ∀ W, Calls Tryd.prog 50 #[.int .i64 st, .string s, .int .i64 p, .int .i64 f] W fun r w' => ∃ g cap : Nat, r = .returned (.tuple #[.slice (some ⟨g, 0, none⟩) L.length cap, .int .i64 0]) ∧ Ints w' (some ⟨g, 0, none⟩) (zi L) ∧ L.length ≤ cap ∧ Below W.heap.size W w'

theorem ints_first {w : World} {g z : Nat} {L : List Nat} (h : Ints w (some ⟨g, 0, none⟩) (zi (z :: L))) : w.cell? ⟨g, 0, none⟩ = some (.int .i64 (z : Int)) := by
  obtain ⟨a, ha, hc⟩ := h 0 (by simp [zi])
  injection ha with ha
  subst ha
  exact hc
theorem ints_tail {w : World} {g z : Nat} {L : List Nat} (h : Ints w (some ⟨g, 0, none⟩) (zi (z :: L))) : Ints w (some ⟨g, 1, none⟩) (zi L) := by
  intro i hi
  obtain ⟨a, ha, hc⟩ := h (i + 1) (by simp [zi] at *; omega)
  injection ha with ha
  subst ha
  refine ⟨_, rfl, ?_⟩
  rw [Addr.add_lit] at hc ⊢
  rw [show 1 + i = 0 + (i + 1) by omega, hc]
  simp [zi]
theorem cut_one (g n cap : Nat) (h : n + 1 ≤ cap) : ∃ X Y, (∀ W : World, (Instr.slice 61 (.slice (some ⟨g, 0, none⟩) (n + 1) cap) (some (.int .i64 1)) none none).run Tryd.prog W = .ok (.slice X n Y) W) ∧ (0 < n → X = some ⟨g, 1, none⟩) := by
  obtain ⟨i0, hi, _⟩ := info_parts Tryd.infoX64
  refine ⟨if cap = 1 then some ⟨g, 0, none⟩ else some ⟨g, 1, none⟩, cap - 1, fun W => ?_, fun hn => if_neg (by omega)⟩
  rw [run_slice_l W 61 (some ⟨g, 0, none⟩) (n + 1) cap (by kernel_rfl) .i64 1 (by omega) (by omega), show Tryd.prog.elem 61 = 3 by kernel_rfl, run_sizeOf W hi, show Tryd.prog.cellsOf 3 = 1 by kernel_rfl]
  simp [sliced, Result.andThen, Addr.add_lit]

set_option maxRecDepth 100000 in
set_option maxHeartbeats 1600000 in
theorem refGet_err1_1 (s : ByteArray) (at_ n : Nat) (w : World) (ha : at_ ≤ s.size) (hr : PartE 1 s at_ 1 n) (hn : n ≠ 0) :
    Calls Tryd.prog 24 #[.int .i64 1, .string s, .int .i64 (at_ : Int)] w fun e w' => e = .returned (.tuple #[.slice none 0 0, .int .i64 0, .int .i64 (n : Int)]) ∧ Below w.heap.size w w' := by
  have HR := Lib.hid hr
  unfold PartE at HR
  have h2 : decide ((at_ : Int) < 0) = false := by simp
  have h3 : decide (s.size < at_) = false := by simp; omega
  have h4 : ((n : Int) != 0) = true := by simp [hn]
  clear hr hn ha
  go_enter Tryd.func24, Tryd.ntmps24
  go_wp2_with fail
  refine (HR.out _).mono ?_
  rintro e w1 ⟨rfl, hb1⟩
  go_wp2
  go_ret3
  exact ⟨rfl, hb1⟩

set_option maxRecDepth 100000 in
set_option maxHeartbeats 1600000 in
theorem refGet_short_1 (s : ByteArray) (at_ : Nat) (L : List Nat) (w : World) (hs : s.size ≤ 1000000) (ha : at_ ≤ s.size) (hr : PartL 1 s at_ 1 L) (hL : ∀ z ∈ L, 2 ≤ z) (hlen : L.length ≤ 64) :
    Calls Tryd.prog 24 #[.int .i64 1, .string s, .int .i64 (at_ : Int)] w fun e w' => ∃ A cap, e = .returned (.tuple #[.slice A L.length cap, .int .i64 ((at_ + 16 : Nat) : Int), .int .i64 0]) ∧ Ints w' A (zi L) ∧ Below w.heap.size w w' := by
  have HR := Lib.hid hr
  unfold PartL at HR
  have h2 : decide ((at_ : Int) < 0) = false := by simp
  have h3 : decide (s.size < at_) = false := by simp; omega
  clear hr
  cases L with
  | nil =>
    clear hL
    go_enter Tryd.func24, Tryd.ntmps24
    go_wp2_with fail
    refine (HR.out _).mono ?_
    rintro e w1 ⟨g, cap, rfl, hi, hc, hb1⟩
    clear hc
    have HI := Lib.hid hi
    clear hi
    go_wp2
    go_ret3
    exact ⟨_, _, rfl, HI.out, hb1⟩
  | cons z L =>
    have hz : 2 ≤ z := hL z (by simp)
    have hz1 : ((z : Int) != 1) = true := by simp; omega
    have hl0 : (L.length + 1) ≤ 64 := hlen
    have HE : Hid ((z :: L).length = L.length + 1) := rfl
    clear hL hlen
    go_enter Tryd.func24, Tryd.ntmps24
    go_wp2_with fail
    refine (HR.out _).mono ?_
    rintro e w1 ⟨g, cap, rfl, hi, hc, hb1⟩
    have hf := ints_first hi
    have HI := Lib.hid hi
    have HB := Lib.hid hb1
    rw [HE.out] at *
    clear hi hc hb1 hz
    generalize hnl : L.length = n at *
    have HNL := Lib.hid hnl; clear hnl
    have hn0 : ((n : Int) + 1 == 0) = false := by simp; omega
    go_wp2
    go_ret3
    exact ⟨some ⟨g, 0, none⟩, cap, by rw [HNL.out]; rfl, HI.out, HB.out⟩

set_option maxRecDepth 100000 in
set_option maxHeartbeats 1600000 in
theorem refGet_err2_1 (s : ByteArray) (at_ n : Nat) (L : List Nat) (w : World) (hs : s.size ≤ 1000000) (ha : at_ ≤ s.size) (hr : PartL 1 s at_ 1 (1 :: L)) (hlen : L.length ≤ 63) (hr2 : PartE 1 s ((at_ : Int) + 16) 65 n) (hn : n ≠ 0) :
    Calls Tryd.prog 24 #[.int .i64 1, .string s, .int .i64 (at_ : Int)] w fun e w' => e = .returned (.tuple #[.slice none 0 0, .int .i64 0, .int .i64 (n : Int)]) ∧ Below w.heap.size w w' := by
  have HR := Lib.hid hr
  unfold PartL at HR
  have HR2 := Lib.hid hr2
  unfold PartE at HR2
  have h2 : decide ((at_ : Int) < 0) = false := by simp
  have h3 : decide (s.size < at_) = false := by simp; omega
  have h4 : ((n : Int) != 0) = true := by simp [hn]
  have HE : Hid ((1 :: L).length = L.length + 1) := rfl
  clear hr hn hr2
  go_enter Tryd.func24, Tryd.ntmps24
  go_wp2_with fail
  refine (HR.out _).mono ?_
  rintro e w1 ⟨g, cap, rfl, hi, hc, hb1⟩
  have hf : w1.cell? ⟨g, 0, none⟩ = some (.int .i64 1) := ints_first hi
  have HB := Lib.hid hb1
  rw [HE.out] at *
  clear hi hc hb1
  generalize L.length = m at *
  have hn0 : ((m : Int) + 1 == 0) = false := by simp; omega
  go_wp2_with fail
  refine (HR2.out _).mono ?_
  rintro e w2 ⟨rfl, hb2⟩
  have HB2 := Lib.hid (hbt HB.out hb2)
  clear hb2 hf
  go_wp2
  go_ret3
  exact ⟨rfl, HB2.out⟩

set_option maxRecDepth 100000 in
set_option maxHeartbeats 1600000 in
theorem refGet_zero_1 (s : ByteArray) (at_ : Nat) (L : List Nat) (w : World) (hs : s.size ≤ 1000000) (ha : at_ ≤ s.size) (hr : PartL 1 s at_ 1 (1 :: L)) (hlen : L.length ≤ 63) (hr2 : PartL 1 s ((at_ : Int) + 16) 65 []) :
    Calls Tryd.prog 24 #[.int .i64 1, .string s, .int .i64 (at_ : Int)] w fun e w' => e = .returned (.tuple #[.slice none 0 0, .int .i64 0, .int .i64 8]) ∧ Below w.heap.size w w' := by
  have HR := Lib.hid hr
  have HR2 := Lib.hid hr2
  unfold PartL at HR HR2
  have h2 : decide ((at_ : Int) < 0) = false := by simp
  have h3 : decide (s.size < at_) = false := by simp; omega
  have HE : Hid ((1 :: L).length = L.length + 1) := rfl
  clear hr hr2
  go_enter Tryd.func24, Tryd.ntmps24
  go_wp2_with fail
  refine (HR.out _).mono ?_
  rintro e w1 ⟨g, cap, rfl, hi, hc, hb1⟩
  have hf : w1.cell? ⟨g, 0, none⟩ = some (.int .i64 1) := ints_first hi
  have HB := Lib.hid hb1
  rw [HE.out] at *
  clear hi hc hb1
  generalize L.length = m at *
  have hn0 : ((m : Int) + 1 == 0) = false := by simp; omega
  go_wp2_with fail
  refine (HR2.out _).mono ?_
  rintro e w2 ⟨g2, cap2, rfl, hi2, hc2, hb2⟩
  have HB2 := Lib.hid (hbt HB.out hb2)
  clear hb2 hf hi2 hc2
  go_wp2
  go_ret3
  exact ⟨rfl, HB2.out⟩

set_option maxRecDepth 100000 in
set_option maxHeartbeats 1600000 in
theorem refGet_err1_2 (s : ByteArray) (at_ n : Nat) (w : World) (ha : at_ ≤ s.size) (hr : PartE 2 s at_ 1 n) (hn : n ≠ 0) :
    Calls Tryd.prog 24 #[.int .i64 2, .string s, .int .i64 (at_ : Int)] w fun e w' => e = .returned (.tuple #[.slice none 0 0, .int .i64 0, .int .i64 (n : Int)]) ∧ Below w.heap.size w w' := by
  have HR := Lib.hid hr
  unfold PartE at HR
  have h2 : decide ((at_ : Int) < 0) = false := by simp
  have h3 : decide (s.size < at_) = false := by simp; omega
  have h4 : ((n : Int) != 0) = true := by simp [hn]
  clear hr hn ha
  go_enter Tryd.func24, Tryd.ntmps24
  go_wp2_with fail
  refine (HR.out _).mono ?_
  rintro e w1 ⟨rfl, hb1⟩
  go_wp2
  go_ret3
  exact ⟨rfl, hb1⟩

set_option maxRecDepth 100000 in
set_option maxHeartbeats 1600000 in
theorem refGet_short_2 (s : ByteArray) (at_ : Nat) (L : List Nat) (w : World) (hs : s.size ≤ 1000000) (ha : at_ ≤ s.size) (hr : PartL 2 s at_ 1 L) (hL : ∀ z ∈ L, 2 ≤ z) (hlen : L.length ≤ 64) :
    Calls Tryd.prog 24 #[.int .i64 2, .string s, .int .i64 (at_ : Int)] w fun e w' => ∃ A cap, e = .returned (.tuple #[.slice A L.length cap, .int .i64 ((at_ + 8 : Nat) : Int), .int .i64 0]) ∧ Ints w' A (zi L) ∧ Below w.heap.size w w' := by
  have HR := Lib.hid hr
  unfold PartL at HR
  have h2 : decide ((at_ : Int) < 0) = false := by simp
  have h3 : decide (s.size < at_) = false := by simp; omega
  clear hr
  cases L with
  | nil =>
    clear hL
    go_enter Tryd.func24, Tryd.ntmps24
    go_wp2_with fail
    refine (HR.out _).mono ?_
    rintro e w1 ⟨g, cap, rfl, hi, hc, hb1⟩
    clear hc
    have HI := Lib.hid hi
    clear hi
    go_wp2
    go_ret3
    exact ⟨_, _, rfl, HI.out, hb1⟩
  | cons z L =>
    have hz : 2 ≤ z := hL z (by simp)
    have hz1 : ((z : Int) != 1) = true := by simp; omega
    have hl0 : (L.length + 1) ≤ 64 := hlen
    have HE : Hid ((z :: L).length = L.length + 1) := rfl
    clear hL hlen
    go_enter Tryd.func24, Tryd.ntmps24
    go_wp2_with fail
    refine (HR.out _).mono ?_
    rintro e w1 ⟨g, cap, rfl, hi, hc, hb1⟩
    have hf := ints_first hi
    have HI := Lib.hid hi
    have HB := Lib.hid hb1
    rw [HE.out] at *
    clear hi hc hb1 hz
    generalize hnl : L.length = n at *
    have HNL := Lib.hid hnl; clear hnl
    have hn0 : ((n : Int) + 1 == 0) = false := by simp; omega
    go_wp2
    go_ret3
    exact ⟨some ⟨g, 0, none⟩, cap, by rw [HNL.out]; rfl, HI.out, HB.out⟩

set_option maxRecDepth 100000 in
set_option maxHeartbeats 1600000 in
theorem refGet_err2_2 (s : ByteArray) (at_ n : Nat) (L : List Nat) (w : World) (hs : s.size ≤ 1000000) (ha : at_ ≤ s.size) (hr : PartL 2 s at_ 1 (1 :: L)) (hlen : L.length ≤ 63) (hr2 : PartE 2 s ((at_ : Int) + 8) 65 n) (hn : n ≠ 0) :
    Calls Tryd.prog 24 #[.int .i64 2, .string s, .int .i64 (at_ : Int)] w fun e w' => e = .returned (.tuple #[.slice none 0 0, .int .i64 0, .int .i64 (n : Int)]) ∧ Below w.heap.size w w' := by
  have HR := Lib.hid hr
  unfold PartL at HR
  have HR2 := Lib.hid hr2
  unfold PartE at HR2
  have h2 : decide ((at_ : Int) < 0) = false := by simp
  have h3 : decide (s.size < at_) = false := by simp; omega
  have h4 : ((n : Int) != 0) = true := by simp [hn]
  have HE : Hid ((1 :: L).length = L.length + 1) := rfl
  clear hr hn hr2
  go_enter Tryd.func24, Tryd.ntmps24
  go_wp2_with fail
  refine (HR.out _).mono ?_
  rintro e w1 ⟨g, cap, rfl, hi, hc, hb1⟩
  have hf : w1.cell? ⟨g, 0, none⟩ = some (.int .i64 1) := ints_first hi
  have HB := Lib.hid hb1
  rw [HE.out] at *
  clear hi hc hb1
  generalize L.length = m at *
  have hn0 : ((m : Int) + 1 == 0) = false := by simp; omega
  go_wp2_with fail
  refine (HR2.out _).mono ?_
  rintro e w2 ⟨rfl, hb2⟩
  have HB2 := Lib.hid (hbt HB.out hb2)
  clear hb2 hf
  go_wp2
  go_ret3
  exact ⟨rfl, HB2.out⟩

set_option maxRecDepth 100000 in
set_option maxHeartbeats 1600000 in
theorem refGet_zero_2 (s : ByteArray) (at_ : Nat) (L : List Nat) (w : World) (hs : s.size ≤ 1000000) (ha : at_ ≤ s.size) (hr : PartL 2 s at_ 1 (1 :: L)) (hlen : L.length ≤ 63) (hr2 : PartL 2 s ((at_ : Int) + 8) 65 []) :
    Calls Tryd.prog 24 #[.int .i64 2, .string s, .int .i64 (at_ : Int)] w fun e w' => e = .returned (.tuple #[.slice none 0 0, .int .i64 0, .int .i64 8]) ∧ Below w.heap.size w w' := by
  have HR := Lib.hid hr
  have HR2 := Lib.hid hr2
  unfold PartL at HR HR2
  have h2 : decide ((at_ : Int) < 0) = false := by simp
  have h3 : decide (s.size < at_) = false := by simp; omega
  have HE : Hid ((1 :: L).length = L.length + 1) := rfl
  clear hr hr2
  go_enter Tryd.func24, Tryd.ntmps24
  go_wp2_with fail
  refine (HR.out _).mono ?_
  rintro e w1 ⟨g, cap, rfl, hi, hc, hb1⟩
  have hf : w1.cell? ⟨g, 0, none⟩ = some (.int .i64 1) := ints_first hi
  have HB := Lib.hid hb1
  rw [HE.out] at *
  clear hi hc hb1
  generalize L.length = m at *
  have hn0 : ((m : Int) + 1 == 0) = false := by simp; omega
  go_wp2_with fail
  refine (HR2.out _).mono ?_
  rintro e w2 ⟨g2, cap2, rfl, hi2, hc2, hb2⟩
  have HB2 := Lib.hid (hbt HB.out hb2)
  clear hb2 hf hi2 hc2
  go_wp2
  go_ret3
  exact ⟨rfl, HB2.out⟩

end Go.Proofs.YtlkpiapmdflahaaDoor

/-
  What the document's Get answers where the first half says that there is a second one: for both styles, every text and place, in every world.
-/
namespace Go.Proofs.YtlkpiapmdflahaaDoor
open Go.RowKit

set_option maxRecDepth 100000 in
set_option maxHeartbeats 3200000 in
theorem refGet_long_1 (s : ByteArray) (at_ : Nat) (L M : List Nat) (w : World) (hs : s.size ≤ 1000000) (ha : at_ ≤ s.size) (hr : PartL 1 s at_ 1 (1 :: L)) (hlen : L.length ≤ 63) (hr2 : PartL 1 s ((at_ : Int) + 16) 65 M) (hM : M ≠ []) (hlm : M.length ≤ 64) :
    Calls Tryd.prog 24 #[.int .i64 1, .string s, .int .i64 (at_ : Int)] w fun e w' => ∃ A cap, e = .returned (.tuple #[.slice A (L ++ M).length cap, .int .i64 ((at_ + 32 : Nat) : Int), .int .i64 0]) ∧ Ints w' A (zi (L ++ M)) ∧ Below w.heap.size w w' := by
  obtain ⟨i0, hi, hz0, hz1, hz2⟩ := info_parts Tryd.infoX64
  have HR := Lib.hid hr
  have HR2 := Lib.hid hr2
  unfold PartL at HR HR2
  have h2 : decide ((at_ : Int) < 0) = false := by simp
  have h3 : decide (s.size < at_) = false := by simp; omega
  have HE : Hid ((1 :: L).length = L.length + 1) := rfl
  have hm0 : 0 < M.length := List.length_pos_iff.2 hM
  have HLE : Hid ((L ++ M).length = L.length + M.length) := by show _ = _; simp
  have HVM : Hid (((zi M).map fun z => Value.int .i64 z).length = M.length * 1) := by show _ = _; simp [zi]
  have HVL : Hid (((zi L).map fun z => Value.int .i64 z).length = L.length * 1) := by show _ = _; simp [zi]
  have HCP : Hid (∀ (W : World) (base g n c : Nat), W.ownsRow base 3 1 (.slice (some ⟨g, 0, none⟩) n c) n ((zi (L ++ M)).map fun z => Value.int .i64 z) → n = L.length + M.length → Ints W (some ⟨g, 0, none⟩) (zi (L ++ M))) := fun W base g n c ho hn => ints_copy (zs := zi (L ++ M)) ho (by simp [zi]; omega)
  have HVA : Hid (((zi (L ++ M)).map fun z => Value.int .i64 z) = ((zi L).map fun z => Value.int .i64 z) ++ (zi M).map fun z => Value.int .i64 z) := by show _ = _; simp [zi]
  have HO1 : Hid (∀ u ∈ (zi M).map (fun z => Value.int .i64 z), u.oneCell' = true) := by show ∀ u ∈ (zi M).map (fun z => Value.int .i64 z), u.oneCell' = true; simp [Value.oneCell']
  have HO2 : Hid (∀ u ∈ (zi L).map (fun z => Value.int .i64 z), u.oneCell' = true) := by show ∀ u ∈ (zi L).map (fun z => Value.int .i64 z), u.oneCell' = true; simp [Value.oneCell']
  have HL0 : Hid (L.length = 0 → ((zi L).map fun z => Value.int .i64 z) = []) := fun e => by rw [List.eq_nil_of_length_eq_zero e]; rfl
  clear hr hr2 hM
  go_enter Tryd.func24, Tryd.ntmps24
  go_wp2_with fail
  refine (HR.out _).mono ?_
  rintro e w1 ⟨g, cap, rfl, hi1, hc1, hb1⟩
  have hf : w1.cell? ⟨g, 0, none⟩ = some (.int .i64 1) := ints_first hi1
  have HI1 := Lib.hid hi1
  have HB := Lib.hid hb1
  rw [HE.out] at *
  obtain ⟨X, Y, hcut, hX⟩ := cut_one g L.length cap hc1
  clear hi1 hc1 hb1
  have HX := Lib.hid hX; clear hX
  generalize hnl : L.length = n at *
  have HNL := Lib.hid hnl; clear hnl
  have hn0 : ((n : Int) + 1 == 0) = false := by simp; omega
  have HCUT := Lib.hid hcut; clear hcut
  go_wp2_with fail
  refine (HR2.out _).mono ?_
  rintro e w2 ⟨g2, cap2, rfl, hi2, hc2, hb2⟩
  have HI2 := Lib.hid hi2
  have HB2 := Lib.hid (hbt HB.out hb2)
  have HI3 := Lib.hid (ints_tail (HI1.out.below hb2))
  generalize hml : M.length = m at *
  have HML := Lib.hid hml; clear hml
  have hm1 : ((m : Int) == 0) = false := by simp; omega
  have hbz := HB2.out.size
  clear hb2 hf hc2 hi2
  have hcut := HCUT.out
  have HOW0 : Hid ((w2.alloc (.cells #[] 3)).ownsRow w2.heap.size 3 1 (.slice (some ⟨w2.heap.size, 0, none⟩) 0 0) 0 []) := World.ownsRow_lit w2 #[] 0 (Nat.le_refl _) (by unfold maxLen; omega) rfl
  by_cases hn : n = 0
  · subst hn
    have hv := HL0.out rfl
    have HM2 := Lib.hid (ints_news (HI2.out.below (below_al w2 (.cells #[] 3))))
    clear hn0
    cases X with
    | none =>
      go_wp2_with (at_builtin; refine wpList_append_lies _ rfl _ _ _ rfl w2.heap.size 3 i0 _ 1 8 Tryd.underlying61 hi hz0 hz1 hz2 rfl (by omega) (.slice (some ⟨w2.heap.size, 0, none⟩) 0 0) 0 [] rfl HOW0.out ⟨g2, 0, none⟩ m cap2 ((zi M).map fun z => Value.int .i64 z) rfl HVM.out HM2.out HO1.out hm0 (by unfold maxLen; omega) (by omega) (by simp) (w2.heap.size + 1) (by simp) ?_; intro g' cap' w3 hown3 hgrow hat hlt3)
      have hb3 : Below w.heap.size w w3 := (hbt HB2.out (below_al _ _)).grown hgrow (by simp; omega) (by intro q hq; simp [Value.ownBlock] at hq; omega)
      have HW3 := Lib.hid hown3
      have HV := Lib.hid hv
      clear hown3 hgrow hat hlt3 hv
      go_wp2
      go_ret3
      exact ⟨some ⟨g', 0, none⟩, cap', by rw [show (L ++ M).length = m by have := HNL.out; have := HML.out; simp; omega]; rfl, HCP.out _ _ _ _ cap' (by rw [HVA.out, HV.out]; exact HW3.out) (by omega), hb3⟩
    | some a =>
      go_wp2_with (at_builtin; refine wpList_append_lies _ rfl _ _ _ rfl w2.heap.size 3 i0 _ 1 8 Tryd.underlying61 hi hz0 hz1 hz2 rfl (by omega) (.slice (some ⟨w2.heap.size, 0, none⟩) 0 0) 0 [] rfl HOW0.out ⟨g2, 0, none⟩ m cap2 ((zi M).map fun z => Value.int .i64 z) rfl HVM.out HM2.out HO1.out hm0 (by unfold maxLen; omega) (by omega) (by simp) (w2.heap.size + 1) (by simp) ?_; intro g' cap' w3 hown3 hgrow hat hlt3)
      have hb3 : Below w.heap.size w w3 := (hbt HB2.out (below_al _ _)).grown hgrow (by simp; omega) (by intro q hq; simp [Value.ownBlock] at hq; omega)
      have HW3 := Lib.hid hown3
      have HV := Lib.hid hv
      clear hown3 hgrow hat hlt3 hv
      go_wp2
      go_ret3
      exact ⟨some ⟨g', 0, none⟩, cap', by rw [show (L ++ M).length = m by have := HNL.out; have := HML.out; simp; omega]; rfl, HCP.out _ _ _ _ cap' (by rw [HVA.out, HV.out]; exact HW3.out) (by omega), hb3⟩
  · have hn1 : 0 < n := by omega
    obtain rfl := HX.out hn1
    have HT2 := Lib.hid (ints_news (HI3.out.below (below_al w2 (.cells #[] 3))))
    go_wp2_with (first | (at_builtin; refine wpList_append_lies _ rfl _ _ _ rfl w2.heap.size 3 i0 _ 1 8 Tryd.underlying61 hi hz0 hz1 hz2 rfl (by omega) (.slice (some ⟨w2.heap.size, 0, none⟩) 0 0) 0 [] rfl HOW0.out ⟨g, 1, none⟩ n Y ((zi L).map fun z => Value.int .i64 z) rfl HVL.out HT2.out HO2.out hn1 (by unfold maxLen; omega) (by omega) (by simp) (w2.heap.size + 1) (by simp) ?_; intro g3 cap3 w3 hown3 hgrow3 hat3 hlt3; rw [Nat.zero_add] at hown3; have HW3 := Lib.hid hown3; have HB3 : Hid (Below w2.heap.size w2 w3) := (below_al _ _).grown hgrow3 (by simp) (by intro q hq; simp [Value.ownBlock] at hq; omega); have hw3 := HB3.out.size; have HM2 := Lib.hid (ints_news (HI2.out.below HB3.out)); clear hown3 hgrow3 hat3) | (at_builtin; refine wpList_append_lies _ rfl _ _ _ rfl w2.heap.size 3 i0 _ 1 8 Tryd.underlying61 hi hz0 hz1 hz2 rfl (by omega) (.slice (some ⟨g3, 0, none⟩) n cap3) n _ rfl HW3.out ⟨g2, 0, none⟩ m cap2 ((zi M).map fun z => Value.int .i64 z) rfl HVM.out HM2.out HO1.out hm0 (by unfold maxLen; omega) (by omega) (by omega) w3.heap.size rfl ?_; intro g4 cap4 w4 hown4 hgrow4 hat4 hlt4))
    have hb4 : Below w.heap.size w w4 := (hbt HB2.out HB3.out).grown hgrow4 (by omega) (by intro q hq; have := own_base HW3.out; simp [Value.ownBlock] at hq; omega)
    have HW4 := Lib.hid hown4
    clear hown4 hgrow4 hat4 hlt4 hlt3
    go_wp2
    go_ret3
    exact ⟨some ⟨g4, 0, none⟩, cap4, by rw [show (L ++ M).length = n + m by have := HNL.out; have := HML.out; simp; omega]; rfl, HCP.out _ _ _ _ cap4 (by rw [HVA.out]; exact HW4.out) (by omega), hb4⟩

set_option maxRecDepth 100000 in
set_option maxHeartbeats 3200000 in
theorem refGet_long_2 (s : ByteArray) (at_ : Nat) (L M : List Nat) (w : World) (hs : s.size ≤ 1000000) (ha : at_ ≤ s.size) (hr : PartL 2 s at_ 1 (1 :: L)) (hlen : L.length ≤ 63) (hr2 : PartL 2 s ((at_ : Int) + 8) 65 M) (hM : M ≠ []) (hlm : M.length ≤ 64) :
    Calls Tryd.prog 24 #[.int .i64 2, .string s, .int .i64 (at_ : Int)] w fun e w' => ∃ A cap, e = .returned (.tuple #[.slice A (L ++ M).length cap, .int .i64 ((at_ + 16 : Nat) : Int), .int .i64 0]) ∧ Ints w' A (zi (L ++ M)) ∧ Below w.heap.size w w' := by
  obtain ⟨i0, hi, hz0, hz1, hz2⟩ := info_parts Tryd.infoX64
  have HR := Lib.hid hr
  have HR2 := Lib.hid hr2
  unfold PartL at HR HR2
  have h2 : decide ((at_ : Int) < 0) = false := by simp
  have h3 : decide (s.size < at_) = false := by simp; omega
  have HE : Hid ((1 :: L).length = L.length + 1) := rfl
  have hm0 : 0 < M.length := List.length_pos_iff.2 hM
  have HLE : Hid ((L ++ M).length = L.length + M.length) := by show _ = _; simp
  have HVM : Hid (((zi M).map fun z => Value.int .i64 z).length = M.length * 1) := by show _ = _; simp [zi]
  have HVL : Hid (((zi L).map fun z => Value.int .i64 z).length = L.length * 1) := by show _ = _; simp [zi]
  have HCP : Hid (∀ (W : World) (base g n c : Nat), W.ownsRow base 3 1 (.slice (some ⟨g, 0, none⟩) n c) n ((zi (L ++ M)).map fun z => Value.int .i64 z) → n = L.length + M.length → Ints W (some ⟨g, 0, none⟩) (zi (L ++ M))) := fun W base g n c ho hn => ints_copy (zs := zi (L ++ M)) ho (by simp [zi]; omega)
  have HVA : Hid (((zi (L ++ M)).map fun z => Value.int .i64 z) = ((zi L).map fun z => Value.int .i64 z) ++ (zi M).map fun z => Value.int .i64 z) := by show _ = _; simp [zi]
  have HO1 : Hid (∀ u ∈ (zi M).map (fun z => Value.int .i64 z), u.oneCell' = true) := by show ∀ u ∈ (zi M).map (fun z => Value.int .i64 z), u.oneCell' = true; simp [Value.oneCell']
  have HO2 : Hid (∀ u ∈ (zi L).map (fun z => Value.int .i64 z), u.oneCell' = true) := by show ∀ u ∈ (zi L).map (fun z => Value.int .i64 z), u.oneCell' = true; simp [Value.oneCell']
  have HL0 : Hid (L.length = 0 → ((zi L).map fun z => Value.int .i64 z) = []) := fun e => by rw [List.eq_nil_of_length_eq_zero e]; rfl
  clear hr hr2 hM
  go_enter Tryd.func24, Tryd.ntmps24
  go_wp2_with fail
  refine (HR.out _).mono ?_
  rintro e w1 ⟨g, cap, rfl, hi1, hc1, hb1⟩
  have hf : w1.cell? ⟨g, 0, none⟩ = some (.int .i64 1) := ints_first hi1
  have HI1 := Lib.hid hi1
  have HB := Lib.hid hb1
  rw [HE.out] at *
  obtain ⟨X, Y, hcut, hX⟩ := cut_one g L.length cap hc1
  clear hi1 hc1 hb1
  have HX := Lib.hid hX; clear hX
  generalize hnl : L.length = n at *
  have HNL := Lib.hid hnl; clear hnl
  have hn0 : ((n : Int) + 1 == 0) = false := by simp; omega
  have HCUT := Lib.hid hcut; clear hcut
  go_wp2_with fail
  refine (HR2.out _).mono ?_
  rintro e w2 ⟨g2, cap2, rfl, hi2, hc2, hb2⟩
  have HI2 := Lib.hid hi2
  have HB2 := Lib.hid (hbt HB.out hb2)
  have HI3 := Lib.hid (ints_tail (HI1.out.below hb2))
  generalize hml : M.length = m at *
  have HML := Lib.hid hml; clear hml
  have hm1 : ((m : Int) == 0) = false := by simp; omega
  have hbz := HB2.out.size
  clear hb2 hf hc2 hi2
  have hcut := HCUT.out
  have HOW0 : Hid ((w2.alloc (.cells #[] 3)).ownsRow w2.heap.size 3 1 (.slice (some ⟨w2.heap.size, 0, none⟩) 0 0) 0 []) := World.ownsRow_lit w2 #[] 0 (Nat.le_refl _) (by unfold maxLen; omega) rfl
  by_cases hn : n = 0
  · subst hn
    have hv := HL0.out rfl
    have HM2 := Lib.hid (ints_news (HI2.out.below (below_al w2 (.cells #[] 3))))
    clear hn0
    cases X with
    | none =>
      go_wp2_with (at_builtin; refine wpList_append_lies _ rfl _ _ _ rfl w2.heap.size 3 i0 _ 1 8 Tryd.underlying61 hi hz0 hz1 hz2 rfl (by omega) (.slice (some ⟨w2.heap.size, 0, none⟩) 0 0) 0 [] rfl HOW0.out ⟨g2, 0, none⟩ m cap2 ((zi M).map fun z => Value.int .i64 z) rfl HVM.out HM2.out HO1.out hm0 (by unfold maxLen; omega) (by omega) (by simp) (w2.heap.size + 1) (by simp) ?_; intro g' cap' w3 hown3 hgrow hat hlt3)
      have hb3 : Below w.heap.size w w3 := (hbt HB2.out (below_al _ _)).grown hgrow (by simp; omega) (by intro q hq; simp [Value.ownBlock] at hq; omega)
      have HW3 := Lib.hid hown3
      have HV := Lib.hid hv
      clear hown3 hgrow hat hlt3 hv
      go_wp2
      go_ret3
      exact ⟨some ⟨g', 0, none⟩, cap', by rw [show (L ++ M).length = m by have := HNL.out; have := HML.out; simp; omega]; rfl, HCP.out _ _ _ _ cap' (by rw [HVA.out, HV.out]; exact HW3.out) (by omega), hb3⟩
    | some a =>
      go_wp2_with (at_builtin; refine wpList_append_lies _ rfl _ _ _ rfl w2.heap.size 3 i0 _ 1 8 Tryd.underlying61 hi hz0 hz1 hz2 rfl (by omega) (.slice (some ⟨w2.heap.size, 0, none⟩) 0 0) 0 [] rfl HOW0.out ⟨g2, 0, none⟩ m cap2 ((zi M).map fun z => Value.int .i64 z) rfl HVM.out HM2.out HO1.out hm0 (by unfold maxLen; omega) (by omega) (by simp) (w2.heap.size + 1) (by simp) ?_; intro g' cap' w3 hown3 hgrow hat hlt3)
      have hb3 : Below w.heap.size w w3 := (hbt HB2.out (below_al _ _)).grown hgrow (by simp; omega) (by intro q hq; simp [Value.ownBlock] at hq; omega)
      have HW3 := Lib.hid hown3
      have HV := Lib.hid hv
      clear hown3 hgrow hat hlt3 hv
      go_wp2
      go_ret3
      exact ⟨some ⟨g', 0, none⟩, cap', by rw [show (L ++ M).length = m by have := HNL.out; have := HML.out; simp; omega]; rfl, HCP.out _ _ _ _ cap' (by rw [HVA.out, HV.out]; exact HW3.out) (by omega), hb3⟩
  · have hn1 : 0 < n := by omega
    obtain rfl := HX.out hn1
    have HT2 := Lib.hid (ints_news (HI3.out.below (below_al w2 (.cells #[] 3))))
    go_wp2_with (first | (at_builtin; refine wpList_append_lies _ rfl _ _ _ rfl w2.heap.size 3 i0 _ 1 8 Tryd.underlying61 hi hz0 hz1 hz2 rfl (by omega) (.slice (some ⟨w2.heap.size, 0, none⟩) 0 0) 0 [] rfl HOW0.out ⟨g, 1, none⟩ n Y ((zi L).map fun z => Value.int .i64 z) rfl HVL.out HT2.out HO2.out hn1 (by unfold maxLen; omega) (by omega) (by simp) (w2.heap.size + 1) (by simp) ?_; intro g3 cap3 w3 hown3 hgrow3 hat3 hlt3; rw [Nat.zero_add] at hown3; have HW3 := Lib.hid hown3; have HB3 : Hid (Below w2.heap.size w2 w3) := (below_al _ _).grown hgrow3 (by simp) (by intro q hq; simp [Value.ownBlock] at hq; omega); have hw3 := HB3.out.size; have HM2 := Lib.hid (ints_news (HI2.out.below HB3.out)); clear hown3 hgrow3 hat3) | (at_builtin; refine wpList_append_lies _ rfl _ _ _ rfl w2.heap.size 3 i0 _ 1 8 Tryd.underlying61 hi hz0 hz1 hz2 rfl (by omega) (.slice (some ⟨g3, 0, none⟩) n cap3) n _ rfl HW3.out ⟨g2, 0, none⟩ m cap2 ((zi M).map fun z => Value.int .i64 z) rfl HVM.out HM2.out HO1.out hm0 (by unfold maxLen; omega) (by omega) (by omega) w3.heap.size rfl ?_; intro g4 cap4 w4 hown4 hgrow4 hat4 hlt4))
    have hb4 : Below w.heap.size w w4 := (hbt HB2.out HB3.out).grown hgrow4 (by omega) (by intro q hq; have := own_base HW3.out; simp [Value.ownBlock] at hq; omega)
    have HW4 := Lib.hid hown4
    clear hown4 hgrow4 hat4 hlt4 hlt3
    go_wp2
    go_ret3
    exact ⟨some ⟨g4, 0, none⟩, cap4, by rw [show (L ++ M).length = n + m by have := HNL.out; have := HML.out; simp; omega]; rfl, HCP.out _ _ _ _ cap4 (by rw [HVA.out]; exact HW4.out) (by omega), hb4⟩

end Go.Proofs.YtlkpiapmdflahaaDoor

/-
  What bitmap.Get and the document's Get answer, in one: for both styles, every text and every place in it, in every world.
-/
namespace Go.Proofs.YtlkpiapmdflahaaDoor
open Go.RowKit

/-- The bytes at a place; what is wrong with them; the set, the place behind and the error. -/
def txt (st : Nat) (s : ByteArray) (p : Nat) : List UInt8 := (s.extract p (p + bwid st)).data.toList
def rdE (st : Nat) (s : ByteArray) (p : Nat) : Nat := if s.size < p + bwid st then 2 else if rdB st (txt st s p) = true then 0 else 3
def rdN (st : Nat) (s : ByteArray) (p : Nat) : Nat := bnumL (rdL st (txt st s p))
structure Got where
  high : Nat
  low : Nat
  next : Nat
  err : Nat
def bmpN (st : Nat) (s : ByteArray) (p : Nat) : Got :=
  if rdE st s p ≠ 0 then ⟨0, 0, 0, rdE st s p⟩
  else if hasN (rdN st s p) 0 1 = false then ⟨rdN st s p, 0, p + bwid st, 0⟩
  else if rdE st s (p + bwid st) ≠ 0 then ⟨0, 0, 0, rdE st s (p + bwid st)⟩
  else if rdN st s (p + bwid st) = 0 then ⟨0, 0, 0, 8⟩
  else ⟨rdN st s p &&& (fullN - aH 1), rdN st s (p + bwid st) &&& (fullN - aL 1), p + 2 * bwid st, 0⟩

theorem txt_len {st : Nat} {s : ByteArray} {p : Nat} (h : p + bwid st ≤ s.size) : (txt st s p).length = bwid st := by
  unfold txt
  rw [Array.length_toList]
  show (s.extract p (p + bwid st)).size = bwid st
  simp
  omega
theorem rdE_zero {st : Nat} {s : ByteArray} {p : Nat} (h : rdE st s p = 0) : p + bwid st ≤ s.size ∧ rdB st (txt st s p) = true := by
  unfold rdE at h
  split at h
  · cases h
  · split at h
    · exact ⟨by omega, by assumption⟩
    · cases h
theorem rd_len {st : Nat} {s : ByteArray} {p : Nat} (h : rdE st s p = 0) : (rdL st (txt st s p)).length = 8 := rdL_len st (txt_len (rdE_zero h).1)
theorem rdN_lt {st : Nat} {s : ByteArray} {p : Nat} (h : rdE st s p = 0) : rdN st s p < M64 := bnumL_lt (rd_len h)

theorem reads_err {st : Nat} {s : ByteArray} {p : Nat} (hst : st = 1 ∨ st = 2) (hs : s.size ≤ 1000000) (hp : p ≤ s.size) (h : rdE st s p ≠ 0) : ReadsTo st s p zeroV 0 (rdE st s p) := by
  intro W
  by_cases hc : s.size < p + bwid st
  · rw [show rdE st s p = 2 by unfold rdE; rw [if_pos hc]]
    exact read_cut st s p W hs hp hc
  · cases hb : rdB st (txt st s p)
    · rw [show rdE st s p = 3 by unfold rdE; rw [if_neg hc, hb]; rfl]
      exact read_no st s p W hst hs (by omega) hb
    · exact absurd (by unfold rdE; rw [if_neg hc, hb]; rfl) h
theorem reads_ok {st : Nat} {s : ByteArray} {p : Nat} (hst : st = 1 ∨ st = 2) (hs : s.size ≤ 1000000) (h : rdE st s p = 0) : ReadsTo st s p (halfV (rdL st (txt st s p))) (p + bwid st) 0 := by
  intro W
  exact read_ok st s p W hst hs (rdE_zero h).1 (rdE_zero h).2
theorem num_zero8 (a b c d e f g i : UInt8) : bnumL [a, b, c, d, e, f, g, i] = 0 ↔ (a.toNat = 0 ∧ b.toNat = 0 ∧ c.toNat = 0 ∧ d.toNat = 0 ∧ e.toNat = 0 ∧ f.toNat = 0 ∧ g.toNat = 0 ∧ i.toNat = 0) := by
  simp only [bnumL, List.foldl]
  omega

theorem bmpget_any (st : Nat) (s : ByteArray) (p : Nat) (w : World) (hst : st = 1 ∨ st = 2) (hs : s.size ≤ 1000000) (hp : p ≤ s.size) :
    Calls Tryd.prog 19 #[.int .i64 (st : Int), .string s, .int .i64 (p : Int)] w fun e w' => e = .returned (.tuple #[setV (bmpN st s p).high (bmpN st s p).low, .int .i64 ((bmpN st s p).next : Int), .int .i64 ((bmpN st s p).err : Int)]) ∧ Below w.heap.size w w' := by
  unfold bmpN
  by_cases h1 : rdE st s p = 0
  · rw [if_neg (by omega)]
    have r1 := reads_ok hst hs h1
    have n1 := fun W => bnumber_any (rdL st (txt st s p)) W (rd_len h1)
    have b1 := rdN_lt h1
    obtain ⟨a0, a1, a2, a3, a4, a5, a6, a7, hl⟩ := eight (rd_len h1)
    rw [show bnumL (rdL st (txt st s p)) = rdN st s p from rfl] at n1
    rw [hl] at r1 n1
    cases h2 : hasN (rdN st s p) 0 1
    · rw [if_pos rfl]
      exact get_short st s p (p + bwid st) (rdN st s p) _ _ _ _ _ _ _ _ w hst hp r1 n1 b1 h2
    · rw [if_neg (by simp)]
      by_cases h3 : rdE st s (p + bwid st) = 0
      · rw [if_neg (by omega)]
        have r2 := reads_ok hst hs h3
        by_cases h4 : rdN st s (p + bwid st) = 0
        · rw [if_pos h4]
          have hz : rdL st (txt st s (p + bwid st)) = halfL 0 := by
            rw [← halfL_numL (rd_len h3)]
            exact congrArg halfL h4
          rw [hz, ← zeroV_half] at r2
          exact get_zero st s p (p + bwid st) (rdN st s p) (p + bwid st + bwid st) _ _ _ _ _ _ _ _ w hst hp r1 n1 b1 h2 r2
        · rw [if_neg h4]
          have n2 := fun W => bnumber_any (rdL st (txt st s (p + bwid st))) W (rd_len h3)
          have b2 := rdN_lt h3
          obtain ⟨c0, c1, c2, c3, c4, c5, c6, c7, hm⟩ := eight (rd_len h3)
          rw [show bnumL (rdL st (txt st s (p + bwid st))) = rdN st s (p + bwid st) from rfl] at n2
          have hz : ¬ bnumL [c0, c1, c2, c3, c4, c5, c6, c7] = 0 := by
            rw [← hm]
            exact h4
          rw [num_zero8] at hz
          rw [hm] at r2 n2
          have := get_long st s p (p + bwid st) (rdN st s p) (p + bwid st + bwid st) (rdN st s (p + bwid st)) _ _ _ _ _ _ _ _ w hst hp r1 n1 b1 h2 _ _ _ _ _ _ _ _ r2 hz n2 b2
          rw [show p + bwid st + bwid st = p + 2 * bwid st by omega] at this
          exact this
      · rw [if_pos h3]
        exact get_err2 st s p (p + bwid st) (rdN st s p) _ _ _ _ _ _ _ _ _ w hst hp r1 n1 b1 h2 (reads_err hst hs (rdE_zero h1).1 h3) h3
  · rw [if_pos h1]
    exact get_err1 st s p _ w hst hp (reads_err hst hs hp h1) h1

theorem parts_err {st : Nat} {s : ByteArray} {p : Nat} (f : Nat) (hst : st = 1 ∨ st = 2) (hs : s.size ≤ 1000000) (hp : p ≤ s.size) (h : rdE st s p ≠ 0) : PartE st s p f (rdE st s p) := by
  intro W
  by_cases hc : s.size < p + bwid st
  · rw [show rdE st s p = 2 by unfold rdE; rw [if_pos hc]]
    exact part_cut st s p f W hst hs hp hc
  · cases hb : rdB st (txt st s p)
    · rw [show rdE st s p = 3 by unfold rdE; rw [if_neg hc, hb]; rfl]
      exact part_no st s p f W hst hs (by omega) hb
    · exact absurd (by unfold rdE; rw [if_neg hc, hb]; rfl) h
theorem parts_ok {st : Nat} {s : ByteArray} {p : Nat} (f : Nat) (hf : f ≤ 1000) (hst : st = 1 ∨ st = 2) (hs : s.size ≤ 1000000) (h : rdE st s p = 0) : PartL st s p f (partL (rdL st (txt st s p)) f 64) := by
  intro W
  exact part_ok st s p f W hst hs (rdE_zero h).1 hf (rdE_zero h).2
theorem bit_first {l : List UInt8} (h : l.length = 8) : bitL l 0 = hasN (bnumL l) 0 1 := (has_num1 h 0 1 (by omega) (by omega)).symm

/-- A list that is the set that Get tells. -/
def Lists (G : Got) (w w' : World) (e : Ending) : Prop :=
  ∃ A cap zs, e = .returned (.tuple #[.slice A zs.length cap, .int .i64 (G.next : Int), .int .i64 (G.err : Int)]) ∧ Ints w' A zs ∧ zs.length ≤ 200 ∧ (ofH zs = G.high ∧ ofL zs = G.low) ∧ Below w.heap.size w w'
theorem bmprefGet_any (st : Nat) (s : ByteArray) (p : Nat) (w : World) (hst : st = 1 ∨ st = 2) (hs : s.size ≤ 1000000) (hp : p ≤ s.size) :
    Calls Tryd.prog 24 #[.int .i64 (st : Int), .string s, .int .i64 (p : Int)] w fun e w' => Lists (bmpN st s p) w w' e := by
  unfold bmpN
  have none_ : ∀ n : Nat, Calls Tryd.prog 24 #[.int .i64 (st : Int), .string s, .int .i64 (p : Int)] w (fun e w' => e = .returned (.tuple #[.slice none 0 0, .int .i64 0, .int .i64 (n : Int)]) ∧ Below w.heap.size w w') →
      Calls Tryd.prog 24 #[.int .i64 (st : Int), .string s, .int .i64 (p : Int)] w fun e w' => Lists ⟨0, 0, 0, n⟩ w w' e := fun n h =>
    h.mono fun e w' he => ⟨none, 0, [], he.1, ints_nil _ _, by simp, ⟨rfl, rfl⟩, he.2⟩
  by_cases h1 : rdE st s p = 0
  · rw [if_neg (by omega)]
    have hl := rd_len h1
    have r1 := parts_ok 1 (by omega) hst hs h1
    have ho := of_part hl
    rw [partL_cons, bit_first hl] at r1
    rw [show bnumL (rdL st (txt st s p)) = rdN st s p from rfl] at r1 ho
    have hrl := restL_len (rdL st (txt st s p)) 1
    cases h2 : hasN (rdN st s p) 0 1
    · rw [if_pos rfl]
      rw [h2, if_neg (by simp), List.nil_append] at r1
      have hlist : partL (rdL st (txt st s p)) 1 64 = restL (rdL st (txt st s p)) 1 := by
        rw [partL_cons, bit_first hl, show bnumL (rdL st (txt st s p)) = rdN st s p from rfl, h2]
        simp
      rw [hlist] at ho
      have hge : ∀ z ∈ restL (rdL st (txt st s p)) 1, 2 ≤ z := fun z hz => by rw [restL_mem] at hz; omega
      have fin : ∀ e w', (∃ A cap, e = .returned (.tuple #[.slice A (restL (rdL st (txt st s p)) 1).length cap, .int .i64 ((p + bwid st : Nat) : Int), .int .i64 0]) ∧ Ints w' A (zi (restL (rdL st (txt st s p)) 1)) ∧ Below w.heap.size w w') → Lists ⟨rdN st s p, 0, p + bwid st, 0⟩ w w' e := by
        rintro e w' ⟨A, cap, he, hi, hb⟩
        exact ⟨A, cap, _, by rw [zi_length]; exact he, hi, by rw [zi_length]; omega, ho, hb⟩
      rcases hst with rfl | rfl
      · exact (refGet_short_1 s p _ w hs hp r1 hge (by omega)).mono fin
      · exact (refGet_short_2 s p _ w hs hp r1 hge (by omega)).mono fin
    · rw [if_neg (by simp)]
      rw [h2, if_pos rfl] at r1
      have r1' : PartL st s p 1 (1 :: restL (rdL st (txt st s p)) 1) := r1
      by_cases h3 : rdE st s (p + bwid st) = 0
      · rw [if_neg (by omega)]
        have hm := rd_len h3
        have r2 := parts_ok 65 (by omega) hst hs h3
        by_cases h4 : rdN st s (p + bwid st) = 0
        · rw [if_pos h4]
          rw [(part_nil hm 65).2 h4] at r2
          apply none_
          rcases hst with rfl | rfl
          · exact refGet_zero_1 s p _ w hs hp r1' hrl r2
          · exact refGet_zero_2 s p _ w hs hp r1' hrl r2
        · rw [if_neg h4]
          have hne : partL (rdL st (txt st s (p + bwid st))) 65 64 ≠ [] := mt (part_nil hm 65).1 h4
          have hpl := partL_len (rdL st (txt st s (p + bwid st))) 65 64
          have ho2 := of_rest hl hm
          have fin : ∀ e w', (∃ A cap, e = .returned (.tuple #[.slice A (restL (rdL st (txt st s p)) 1 ++ partL (rdL st (txt st s (p + bwid st))) 65 64).length cap, .int .i64 ((p + 2 * bwid st : Nat) : Int), .int .i64 0]) ∧ Ints w' A (zi (restL (rdL st (txt st s p)) 1 ++ partL (rdL st (txt st s (p + bwid st))) 65 64)) ∧ Below w.heap.size w w') →
              Lists ⟨rdN st s p &&& (fullN - aH 1), rdN st s (p + bwid st) &&& (fullN - aL 1), p + 2 * bwid st, 0⟩ w w' e := by
            rintro e w' ⟨A, cap, he, hi, hb⟩
            exact ⟨A, cap, _, by rw [zi_length]; exact he, hi, by rw [zi_length, List.length_append]; omega, ho2, hb⟩
          rcases hst with rfl | rfl
          · exact (refGet_long_1 s p _ _ w hs hp r1' hrl r2 hne hpl).mono fin
          · exact (refGet_long_2 s p _ _ w hs hp r1' hrl r2 hne hpl).mono fin
      · rw [if_pos h3]
        have r2 := parts_err 65 hst hs (rdE_zero h1).1 h3
        apply none_
        rcases hst with rfl | rfl
        · exact refGet_err2_1 s p _ _ w hs hp r1' hrl r2 h3
        · exact refGet_err2_2 s p _ _ w hs hp r1' hrl r2 h3
  · rw [if_pos h1]
    have r1 := parts_err 1 hst hs hp h1
    apply none_
    rcases hst with rfl | rfl
    · exact refGet_err1_1 s p _ w hp r1 h1
    · exact refGet_err1_2 s p _ w hp r1 h1

end Go.Proofs.YtlkpiapmdflahaaDoor

/-
  What is put is got, and what is got is put: plain facts on both.
-/
namespace Go.Proofs.YtlkpiapmdflahaaDoor

theorem txt_eq (st : Nat) (s : ByteArray) (p : Nat) : txt st s p = (s.data.toList.drop p).take (bwid st) := by
  unfold txt
  simp
theorem size_list (s : ByteArray) : s.data.toList.length = s.size := by rw [Array.length_toList]; rfl
theorem wid_pos (st : Nat) : 0 < bwid st := by unfold bwid; split <;> omega
theorem has_one (h l : Nat) : hasN h l 1 = h.testBit 63 := by
  unfold hasN
  rw [if_pos (by omega)]
  rfl
theorem low_keep {y : Nat} (b : y < M64) : y &&& (fullN - aL 1) = y := by
  rw [show fullN - aL 1 = 2 ^ 64 - 1 by decide +kernel, Nat.and_two_pow_sub_one_eq_mod]
  exact Nat.mod_eq_of_lt b
theorem low_add (y : Nat) : y ||| aL 1 = y := by
  rw [show aL 1 = 0 by decide +kernel, Nat.or_zero]
theorem high_drop {h : Nat} (b : h < M64) (e : hasN h 0 1 = false) : (h ||| aH 1) &&& (fullN - aH 1) = h := by
  refine (set_ext (h := (h ||| aH 1) &&& (fullN - aH 1)) (l := (0 ||| aL 1) &&& (fullN - aL 1)) (h' := h) (l' := 0) (and_lt (or_lt b (aH_lt 1))) (by decide +kernel) b (by decide) fun m => ?_).1
  rw [has_without, has_with]
  by_cases hm : m = 1
  · subst hm
    rw [e]
    rfl
  · simp [hm]
theorem high_add {x : Nat} (b : x < M64) (e : hasN x 0 1 = true) : (x &&& (fullN - aH 1)) ||| aH 1 = x := by
  refine (set_ext (h := (x &&& (fullN - aH 1)) ||| aH 1) (l := (0 &&& (fullN - aL 1)) ||| aL 1) (h' := x) (l' := 0) (or_lt (and_lt b) (aH_lt 1)) (by decide +kernel) b (by decide) fun m => ?_).1
  rw [has_with, has_without]
  by_cases hm : m = 1
  · subst hm
    rw [e]
    rfl
  · simp [hm]
theorem high_has (h : Nat) : hasN (h ||| aH 1) 0 1 = true := by
  have := has_with h 0 1 1
  rw [low_add] at this
  rw [this]
  simp

/-- A half that stands at a place is read as it is. -/
theorem rd_at {st : Nat} {s : ByteArray} {p x : Nat} {a c : List UInt8} (b : x < M64) (hs : s.data.toList = a ++ (spL st (halfL x) ++ c)) (hp : p = a.length) : rdE st s p = 0 ∧ rdN st s p = x := by
  have hl := spL_len st (halfL_len x)
  have ht : txt st s p = spL st (halfL x) := by
    rw [txt_eq, hs, hp, List.drop_left, ← hl, List.take_left]
  have hsz : ¬ s.size < p + bwid st := by
    rw [← size_list, hs]
    simp only [List.length_append]
    omega
  unfold rdE rdN
  rw [ht, (rd_sp st).1, (rd_sp st).2, if_neg hsz]
  exact ⟨rfl, numL_halfL b⟩
theorem bmpL_len (st h l : Nat) : (bmpL st h l).length = if l = 0 then bwid st else 2 * bwid st := by
  unfold bmpL
  split
  · exact spL_len st (halfL_len h)
  · rw [List.length_append, spL_len st (halfL_len _), spL_len st (halfL_len _)]
    omega
theorem getN_put {st : Nat} {s : ByteArray} {p h l : Nat} {a c : List UInt8} (b1 : h < M64) (b2 : l < M64) (e : hasN h l 1 = false) (hs : s.data.toList = a ++ (bmpL st h l ++ c)) (hp : p = a.length) :
    bmpN st s p = ⟨h, l, p + (bmpL st h l).length, 0⟩ := by
  have e0 : hasN h 0 1 = false := by rw [has_one] at *; exact e
  rw [bmpL_len]
  unfold bmpL at hs
  by_cases hl : l = 0
  · subst hl
    rw [if_pos rfl] at hs ⊢
    obtain ⟨r1, r2⟩ := rd_at b1 hs hp
    unfold bmpN
    rw [if_neg (by omega), r2, if_pos e0]
  · rw [if_neg hl] at hs ⊢
    have hs1 : s.data.toList = a ++ (spL st (halfL (h ||| aH 1)) ++ (spL st (halfL l) ++ c)) := by rw [hs, List.append_assoc]
    have hs2 : s.data.toList = (a ++ spL st (halfL (h ||| aH 1))) ++ (spL st (halfL l) ++ c) := by rw [hs1, List.append_assoc]
    have bh := or_lt b1 (aH_lt 1)
    obtain ⟨r1, r2⟩ := rd_at bh hs1 hp
    obtain ⟨r3, r4⟩ := rd_at (p := p + bwid st) b2 hs2 (by rw [List.length_append, spL_len st (halfL_len _), hp])
    unfold bmpN
    rw [if_neg (by omega), r2, if_neg (by rw [high_has]; simp), if_neg (by omega), r4, if_neg hl, high_drop b1 e0, low_keep b2]

theorem sp_at {st : Nat} {s : ByteArray} {p : Nat} (h : rdE st s p = 0) : spL st (halfL (rdN st s p)) = (s.data.toList.drop p).take (bwid st) := by
  unfold rdN
  rw [halfL_numL (rd_len h), sp_rd st (rdE_zero h).2, txt_eq]
theorem bmpput_N {st : Nat} {s : ByteArray} (e : (bmpN st s 0).err = 0) :
    ((bmpN st s 0).high < M64 ∧ (bmpN st s 0).low < M64 ∧ hasN (bmpN st s 0).high (bmpN st s 0).low 1 = false) ∧ (bmpN st s 0).next ≤ s.size ∧ bmpL st (bmpN st s 0).high (bmpN st s 0).low = s.data.toList.take (bmpN st s 0).next := by
  unfold bmpN at *
  by_cases h1 : rdE st s 0 = 0
  · rw [if_neg (by omega)] at e ⊢
    have z1 := (rdE_zero h1).1
    have s1 := sp_at h1
    have b1 := rdN_lt h1
    rw [List.drop_zero] at s1
    cases h2 : hasN (rdN st s 0) 0 1
    · rw [h2, if_pos rfl] at e
      rw [if_pos rfl]
      refine ⟨⟨b1, by show (0 : Nat) < M64; decide, h2⟩, by show 0 + bwid st ≤ s.size; omega, ?_⟩
      show bmpL st (rdN st s 0) 0 = s.data.toList.take (0 + bwid st)
      unfold bmpL
      rw [if_pos rfl, s1, Nat.zero_add]
    · rw [h2, if_neg (by simp)] at e
      rw [if_neg (by simp)]
      by_cases h3 : rdE st s (0 + bwid st) = 0
      · rw [if_neg (by omega)] at e ⊢
        by_cases h4 : rdN st s (0 + bwid st) = 0
        · rw [if_pos h4] at e
          cases e
        · rw [if_neg h4]
          have z3 := (rdE_zero h3).1
          have s3 := sp_at h3
          have b3 := rdN_lt h3
          rw [low_keep b3]
          refine ⟨⟨and_lt b1, b3, ?_⟩, by show 0 + 2 * bwid st ≤ s.size; omega, ?_⟩
          · show hasN (rdN st s 0 &&& (fullN - aH 1)) (rdN st s (0 + bwid st)) 1 = false
            have := has_without (rdN st s 0) 0 1 1
            rw [has_one] at this ⊢
            rw [this]
            simp
          · show bmpL st (rdN st s 0 &&& (fullN - aH 1)) (rdN st s (0 + bwid st)) = s.data.toList.take (0 + 2 * bwid st)
            unfold bmpL
            rw [if_neg h4, high_add b1 h2, s1, s3, Nat.zero_add, Nat.zero_add, Nat.two_mul, List.take_add]
      · rw [if_pos h3] at e
        exact absurd e h3
  · rw [if_pos h1] at e
    exact absurd e h1
theorem getN_err {st : Nat} {s : ByteArray} {p : Nat} (e : (bmpN st s p).err ≠ 0) : (bmpN st s p).high = 0 ∧ (bmpN st s p).low = 0 ∧ (bmpN st s p).next = 0 := by
  unfold bmpN at *
  by_cases h1 : rdE st s p = 0
  · rw [if_neg (by omega)] at e ⊢
    cases h2 : hasN (rdN st s p) 0 1
    · rw [h2, if_pos rfl] at e
      exact absurd rfl e
    · rw [h2, if_neg (by simp)] at e
      rw [if_neg (by simp)]
      by_cases h3 : rdE st s (p + bwid st) = 0
      · rw [if_neg (by omega)] at e ⊢
        by_cases h4 : rdN st s (p + bwid st) = 0
        · rw [if_pos h4]
          exact ⟨rfl, rfl, rfl⟩
        · rw [if_neg h4] at e
          exact absurd rfl e
      · rw [if_pos h3]
        exact ⟨rfl, rfl, rfl⟩
  · rw [if_pos h1]
    exact ⟨rfl, rfl, rfl⟩

end Go.Proofs.YtlkpiapmdflahaaDoor

/-
  What bitmap.Put answers: for every style and set, in every world.
-/
namespace Go.Proofs.YtlkpiapmdflahaaDoor
open Go.RowKit

theorem halfV_by (x : Nat) : halfV (halfL x) = .agg #[.int .u8 (byN x 7 : Int), .int .u8 (byN x 6 : Int), .int .u8 (byN x 5 : Int), .int .u8 (byN x 4 : Int), .int .u8 (byN x 3 : Int), .int .u8 (byN x 2 : Int), .int .u8 (byN x 1 : Int), .int .u8 (byN x 0 : Int)] := by
  unfold halfV
  rw [← halfK_end]
  rfl
theorem byN_zero {x : Nat} (h : x < M64) : (byN x 7 = 0 ∧ byN x 6 = 0 ∧ byN x 5 = 0 ∧ byN x 4 = 0 ∧ byN x 3 = 0 ∧ byN x 2 = 0 ∧ byN x 1 = 0 ∧ byN x 0 = 0) ↔ x = 0 := by
  constructor
  · rintro ⟨h7, h6, h5, h4, h3, h2, h1, h0⟩
    apply halfL_inj h (by decide)
    rw [halfL_eq, h7, h6, h5, h4, h3, h2, h1, h0]
    rfl
  · rintro rfl
    decide

theorem put_style (st : Int) (h l : Nat) (w : World) (hst : st ≠ 1 ∧ st ≠ 2) :
    Calls Tryd.prog 28 #[.int .i64 st, setV h l] w fun e w' => e = .returned (.tuple #[.string ⟨#[]⟩, .int .i64 1]) ∧ Below w.heap.size w w' := by
  have HK := Lib.hid (bknown_no st hst)
  unfold setV
  clear hst
  go_enter Tryd.func28, Tryd.ntmps28
  go_wp2_with fail
  refine (HK.out _).mono ?_
  rintro e w1 ⟨rfl, rfl⟩
  go_wp2
  go_ret2
  exact ⟨rfl, below_al _ _⟩
theorem bmpput_one (st h l : Nat) (w : World) (hst : st = 1 ∨ st = 2) (b1 : h < M64) (b2 : l < M64) (h1 : hasN h l 1 = true) :
    Calls Tryd.prog 28 #[.int .i64 (st : Int), setV h l] w fun e w' => e = .returned (.tuple #[.string ⟨#[]⟩, .int .i64 1]) ∧ Below w.heap.size w w' := by
  have HK := Lib.hid (bknown_yes st hst)
  have HA := Lib.hid (fun W => by have := has_any h l 1 W b1 b2; rw [h1] at this; exact this)
  unfold setV at *
  clear hst b1 b2 h1
  go_enter Tryd.func28, Tryd.ntmps28
  go_wp2_with fail
  refine (HK.out _).mono ?_
  rintro e w1 ⟨rfl, rfl⟩
  go_wp2_with fail
  refine (HA.out _).mono ?_
  rintro e w1 ⟨rfl, hb⟩
  go_wp2
  go_ret2
  exact ⟨rfl, hbt (below_al _ _) hb⟩

set_option maxRecDepth 100000 in
set_option maxHeartbeats 800000 in
theorem put_short (st h : Nat) (w : World) (hst : st = 1 ∨ st = 2) (b1 : h < M64) (h1 : hasN h 0 1 = false) :
    Calls Tryd.prog 28 #[.int .i64 (st : Int), setV h 0] w fun e w' => e = .returned (.tuple #[.string ⟨(spL st (halfL h)).toArray⟩, .int .i64 0]) ∧ Below w.heap.size w w' := by
  have HK := Lib.hid (bknown_yes st hst)
  have HA := Lib.hid (fun W => by have := has_any h 0 1 W b1 (by decide); rw [h1] at this; exact this)
  have HH := Lib.hid (halves_any h 0)
  have H0 := Lib.hid (halfOf_any 0)
  have HO := Lib.hid (halfOf_any h)
  have HS := Lib.hid (fun W => spell_any st (halfL h) W (halfL_len h))
  rw [show halfV (halfL 0) = .agg #[.int .u8 0, .int .u8 0, .int .u8 0, .int .u8 0, .int .u8 0, .int .u8 0, .int .u8 0, .int .u8 0] from rfl] at H0
  have heq := half_eq_yes
  generalize halfV (halfL h) = V at *
  generalize (⟨(spL st (halfL h)).toArray⟩ : ByteArray) = t at *
  unfold setV at *
  clear hst b1 h1
  go_enter Tryd.func28, Tryd.ntmps28
  go_wp2_with fail
  refine (HK.out _).mono ?_
  rintro e w1 ⟨rfl, rfl⟩
  go_wp2_with fail
  refine (HA.out _).mono ?_
  rintro e w1 ⟨rfl, hb1⟩
  have ho := obj_below (heap_alloc_new w (setO h 0)) hb1
  have hbA := hbt (below_al _ _) hb1
  obtain ⟨c0, c1, _, _⟩ := obj_cells ho
  have HB := Lib.hid hbA; have HOb := Lib.hid ho
  clear hbA ho hb1
  go_wp2_with fail
  refine (HH.out _).mono ?_
  rintro e w2 ⟨rfl, hb2⟩
  have HB2 := Lib.hid (hbt HB.out hb2)
  clear hb2 c0 c1
  go_wp2_with fail
  refine (H0.out _).mono ?_
  rintro e w3 ⟨rfl, hb3⟩
  have HB3 := Lib.hid (hbt HB2.out hb3)
  clear hb3
  go_wp2_with fail
  refine (HO.out _).mono ?_
  rintro e w4 ⟨rfl, hb4⟩
  have HB4 := Lib.hid (hbt (hbt HB3.out (below_al _ _)) hb4)
  clear hb4
  go_wp2_with fail
  refine (HS.out _).mono ?_
  rintro e w5 ⟨rfl, hb5⟩
  have HB5 := Lib.hid (hbt HB4.out hb5)
  clear hb5
  go_wp2
  go_ret2
  exact ⟨rfl, HB5.out⟩

set_option maxRecDepth 100000 in
set_option maxHeartbeats 1600000 in
theorem put_long (st h l : Nat) (w : World) (hst : st = 1 ∨ st = 2) (b1 : h < M64) (b2 : l < M64) (h1 : hasN h l 1 = false) (hl : l ≠ 0) :
    Calls Tryd.prog 28 #[.int .i64 (st : Int), setV h l] w fun e w' => e = .returned (.tuple #[.string (⟨(spL st (halfL (h ||| aH 1))).toArray⟩ ++ ⟨(spL st (halfL l)).toArray⟩), .int .i64 0]) ∧ Below w.heap.size w w' := by
  have HK := Lib.hid (bknown_yes st hst)
  have HA := Lib.hid (fun W => by have := has_any h l 1 W b1 b2; rw [h1] at this; exact this)
  have HH := Lib.hid (halves_any h l)
  have H0 := Lib.hid (halfOf_any l)
  have HI := Lib.hid (fun W => with_any h l 1 W b1 b2)
  have HG := Lib.hid (halves_any (h ||| aH 1) (l ||| aL 1))
  have HO := Lib.hid (halfOf_any (h ||| aH 1))
  have HS := Lib.hid (fun W => spell_any st (halfL (h ||| aH 1)) W (halfL_len _))
  have HT := Lib.hid (fun W => spell_any st (halfL l) W (halfL_len _))
  have hts : ¬ 9223372036854775807 < (⟨(spL st (halfL (h ||| aH 1))).toArray⟩ : ByteArray).size + (⟨(spL st (halfL l)).toArray⟩ : ByteArray).size := by
    have e1 := spL_len st (halfL_len (h ||| aH 1))
    have e2 := spL_len st (halfL_len l)
    have e3 : bwid st ≤ 16 := by unfold bwid; split <;> omega
    show ¬ 9223372036854775807 < (spL st (halfL (h ||| aH 1))).toArray.size + (spL st (halfL l)).toArray.size
    simp only [List.size_toArray]
    omega
  have hz := mt (byN_zero b2).1 hl
  have heq := half_eq_no _ _ _ _ _ _ _ _ hz
  clear hz
  rw [halfV_by l] at H0 HT
  generalize (⟨(spL st (halfL l)).toArray⟩ : ByteArray) = t' at *
  generalize byN l 7 = y7 at *
  generalize byN l 6 = y6 at *
  generalize byN l 5 = y5 at *
  generalize byN l 4 = y4 at *
  generalize byN l 3 = y3 at *
  generalize byN l 2 = y2 at *
  generalize byN l 1 = y1 at *
  generalize byN l 0 = y0 at *
  generalize halfV (halfL (h ||| aH 1)) = V at *
  generalize (⟨(spL st (halfL (h ||| aH 1))).toArray⟩ : ByteArray) = t at *
  unfold setV at *
  clear hst b1 b2 h1 hl
  generalize h ||| aH 1 = h' at *
  generalize l ||| aL 1 = l' at *
  go_enter Tryd.func28, Tryd.ntmps28
  go_wp2_with fail
  refine (HK.out _).mono ?_
  rintro e w1 ⟨rfl, rfl⟩
  go_wp2_with fail
  refine (HA.out _).mono ?_
  rintro e w1 ⟨rfl, hb1⟩
  have ho := obj_below (heap_alloc_new w (setO h l)) hb1
  have hbA := hbt (below_al _ _) hb1
  obtain ⟨c0, c1, _, _⟩ := obj_cells ho
  have HB := Lib.hid hbA; have HOb := Lib.hid ho
  clear hbA ho hb1
  go_wp2_with fail
  refine (HH.out _).mono ?_
  rintro e w2 ⟨rfl, hb2⟩
  have HB2 := Lib.hid (hbt HB.out hb2)
  have HOc := Lib.hid (obj_below HOb.out hb2)
  clear hb2 c0 c1
  go_wp2_with fail
  refine (H0.out _).mono ?_
  rintro e w3 ⟨rfl, hb3⟩
  have HB3 := Lib.hid (hbt HB2.out hb3)
  have ho := obj_below HOc.out hb3
  have HOd := Lib.hid ho
  obtain ⟨c0, c1, _, _⟩ := obj_cells ho
  have k1 := obj_lt ho
  clear hb3 ho
  go_wp2_with fail
  refine (HI.out _).mono ?_
  rintro e w4 ⟨rfl, hb4⟩
  have HB4 := Lib.hid (hbt (hbt HB3.out (below_al _ _)) hb4)
  have HOe := Lib.hid (obj_below (heap_alloc_new w3 (.cells #[.int .u8 (y7 : Int), .int .u8 (y6 : Int), .int .u8 (y5 : Int), .int .u8 (y4 : Int), .int .u8 (y3 : Int), .int .u8 (y2 : Int), .int .u8 (y1 : Int), .int .u8 (y0 : Int)] 95)) hb4)
  clear hb4 c0 c1 k1
  generalize w3.heap.size = g at *
  go_wp2_with fail
  refine (HG.out _).mono ?_
  rintro e w5 ⟨rfl, hb5⟩
  have HB5 := Lib.hid (hbt HB4.out hb5)
  have HOf := Lib.hid (obj_below HOe.out hb5)
  clear hb5
  go_wp2_with fail
  refine wp_region_noPanic ?_
  refine wp_region_held_drew (S := (fun u => Below w.heap.size w u ∧ u.heap[g]? = some (.cells #[.int .u8 (y7 : Int), .int .u8 (y6 : Int), .int .u8 (y5 : Int), .int .u8 (y4 : Int), .int .u8 (y3 : Int), .int .u8 (y2 : Int), .int .u8 (y1 : Int), .int .u8 (y0 : Int)] 95))) (by kernel_rfl) (⟨HB5.out.drew, HOf.out⟩) (fun hS => ?_)
  refine give_val (i := 0) (v := ?_) rfl (by kernel_rfl) (by kernel_rfl) (by kernel_rfl) (fun _ _ _ h => h) (by rfl) (fun u hu => ?_) hS ?_
  rotate_left
  · ((obtain ⟨_, hu2⟩ := hu; obtain ⟨⟨c0, c1, c2, c3, c4, c5, c6, c7⟩, _⟩ := obj_cells8 hu2; clear hu2); go_simp; try (with_reducible rfl))
  try simp only [Act.put, List.setIfInBounds_toArray, List.set_cons_zero, List.set_cons_succ]
  refine give_val (i := 2) (v := ?_) rfl (by kernel_rfl) (by kernel_rfl) (by kernel_rfl) (fun _ _ _ h => h) (by rfl) (fun u hu => ?_) hS ?_
  rotate_left
  · ((obtain ⟨_, hu2⟩ := hu; obtain ⟨⟨c0, c1, c2, c3, c4, c5, c6, c7⟩, _⟩ := obj_cells8 hu2; clear hu2); go_simp; try (with_reducible rfl))
  try simp only [Act.put, List.setIfInBounds_toArray, List.set_cons_zero, List.set_cons_succ]
  refine give_val (i := 4) (v := ?_) rfl (by kernel_rfl) (by kernel_rfl) (by kernel_rfl) (fun _ _ _ h => h) (by rfl) (fun u hu => ?_) hS ?_
  rotate_left
  · ((obtain ⟨_, hu2⟩ := hu; obtain ⟨⟨c0, c1, c2, c3, c4, c5, c6, c7⟩, _⟩ := obj_cells8 hu2; clear hu2); go_simp; try (with_reducible rfl))
  try simp only [Act.put, List.setIfInBounds_toArray, List.set_cons_zero, List.set_cons_succ]
  refine give_val (i := 5) (v := ?_) rfl (by kernel_rfl) (by kernel_rfl) (by kernel_rfl) (fun _ _ _ h => h) (by rfl) (fun u hu => ?_) hS ?_
  rotate_left
  · ((obtain ⟨_, hu2⟩ := hu; obtain ⟨⟨c0, c1, c2, c3, c4, c5, c6, c7⟩, _⟩ := obj_cells8 hu2; clear hu2); go_simp; try (with_reducible rfl))
  try simp only [Act.put, List.setIfInBounds_toArray, List.set_cons_zero, List.set_cons_succ]
  refine only_call (i := 1) 58 #[.int .u64 (h' : Int)] rfl (by kernel_rfl) (by rfl) ((HO.out _).mono fun e w' he => ⟨he.1, hbt hS.1 he.2, obj_below hS.2 he.2⟩) ?_ ?_
  · (go_simp; try (with_reducible rfl))
  clear hS
  intro w1 hS
  try simp only [Act.put, List.setIfInBounds_toArray, List.set_cons_zero, List.set_cons_succ]
  refine only_call (i := 3) 59 #[V, .int .i64 (st : Int)] rfl (by kernel_rfl) (by rfl) ((HS.out _).mono fun e w' he => ⟨he.1, hbt hS.1 he.2, obj_below hS.2 he.2⟩) ?_ ?_
  · (go_simp; try (with_reducible rfl))
  clear hS
  intro w3 hS
  try simp only [Act.put, List.setIfInBounds_toArray, List.set_cons_zero, List.set_cons_succ]
  refine only_call (i := 6) 59 #[.agg #[.int .u8 (y7 : Int), .int .u8 (y6 : Int), .int .u8 (y5 : Int), .int .u8 (y4 : Int), .int .u8 (y3 : Int), .int .u8 (y2 : Int), .int .u8 (y1 : Int), .int .u8 (y0 : Int)], .int .i64 (st : Int)] rfl (by kernel_rfl) (by rfl) ((HT.out _).mono fun e w' he => ⟨he.1, hbt hS.1 he.2, obj_below hS.2 he.2⟩) ?_ ?_
  · (go_simp; try (with_reducible rfl))
  clear hS
  intro w6 hS
  try simp only [Act.put, List.setIfInBounds_toArray, List.set_cons_zero, List.set_cons_succ]
  refine give_val (i := 7) (v := ?_) rfl (by kernel_rfl) (by kernel_rfl) (by kernel_rfl) (fun _ _ _ h => h) (by rfl) (fun u hu => ?_) hS ?_
  rotate_left
  · ((obtain ⟨_, hu2⟩ := hu; obtain ⟨⟨c0, c1, c2, c3, c4, c5, c6, c7⟩, _⟩ := obj_cells8 hu2; clear hu2); go_simp; try (with_reducible rfl))
  try simp only [Act.put, List.setIfInBounds_toArray, List.set_cons_zero, List.set_cons_succ]
  refine give_val (i := 8) (v := ?_) rfl (by kernel_rfl) (by kernel_rfl) (by kernel_rfl) (fun _ _ _ h => h) (by rfl) (fun u hu => ?_) hS ?_
  rotate_left
  · ((obtain ⟨_, hu2⟩ := hu; obtain ⟨⟨c0, c1, c2, c3, c4, c5, c6, c7⟩, _⟩ := obj_cells8 hu2; clear hu2); go_simp; try (with_reducible rfl))
  try simp only [Act.put, List.setIfInBounds_toArray, List.set_cons_zero, List.set_cons_succ]
  refine give_val (i := 9) (v := ?_) rfl (by kernel_rfl) (by kernel_rfl) (by kernel_rfl) (fun _ _ _ h => h) (by rfl) (fun u hu => ?_) hS ?_
  rotate_left
  · ((obtain ⟨_, hu2⟩ := hu; obtain ⟨⟨c0, c1, c2, c3, c4, c5, c6, c7⟩, _⟩ := obj_cells8 hu2; clear hu2); go_simp; try (with_reducible rfl))
  try simp only [Act.put, List.setIfInBounds_toArray, List.set_cons_zero, List.set_cons_succ]
  refine wpAnyH_done (by kernel_rfl) (NoPanic.normal ?_) _
  go_wp2
  go_ret2
  exact ⟨rfl, hS.1⟩

/-- All in one: the bitmap. -/
theorem put_ok (st h l : Nat) (w : World) (hst : st = 1 ∨ st = 2) (b1 : h < M64) (b2 : l < M64) (h1 : hasN h l 1 = false) :
    Calls Tryd.prog 28 #[.int .i64 (st : Int), setV h l] w fun e w' => e = .returned (.tuple #[.string ⟨(bmpL st h l).toArray⟩, .int .i64 0]) ∧ Below w.heap.size w w' := by
  unfold bmpL
  by_cases hl : l = 0
  · subst hl
    rw [if_pos rfl]
    exact put_short st h w hst b1 h1
  · rw [if_neg hl]
    have := put_long st h l w hst b1 b2 h1 hl
    rwa [show (⟨(spL st (halfL (h ||| aH 1))).toArray⟩ ++ ⟨(spL st (halfL l)).toArray⟩ : ByteArray) = ⟨(spL st (halfL (h ||| aH 1)) ++ spL st (halfL l)).toArray⟩ by
      rw [ByteArray.ext_iff, ByteArray.data_append]; simp] at this

end Go.Proofs.YtlkpiapmdflahaaDoor
