/-
  Bitmaps: eight bytes and numbers of 64 bits; plain arithmetic, no program.
-/
import Derived.Test.YtdnckiaeeikbhaaFldMath
import Derived.Test.YtdnckiaeeikbhaaHexMath
import Derived.Test.YtdnckiaeeikbhaaInts
namespace Go.Proofs.Ytdnckiaeeikbhaa

/-- A number's byte, counted from the right; its eight bytes, the highest one first; the number whose bytes these are. -/
def byN (x i : Nat) : Nat := x / 2 ^ (8 * i) % 256
def halfL (x : Nat) : List UInt8 := (List.range 8).map fun j => UInt8.ofNat (byN x (7 - j))
def numL (l : List UInt8) : Nat := l.foldl (fun n b => n * 256 + b.toNat) 0

theorem byN_lt (x i : Nat) : byN x i < 256 := Nat.mod_lt _ (by decide)
theorem halfL_len (x : Nat) : (halfL x).length = 8 := by simp [halfL]
theorem numL_snoc (l : List UInt8) (b : UInt8) : numL (l ++ [b]) = numL l * 256 + b.toNat := by simp [numL]
theorem eight {α : Type} {l : List α} (h : l.length = 8) : ∃ a b c d e f g i, l = [a, b, c, d, e, f, g, i] := by
  match l, h with
  | [a, b, c, d, e, f, g, i], _ => exact ⟨a, b, c, d, e, f, g, i, rfl⟩
theorem numL_lt {l : List UInt8} (h : l.length = 8) : numL l < M64 := by
  obtain ⟨a, b, c, d, e, f, g, i, rfl⟩ := eight h
  have := a.toNat_lt; have := b.toNat_lt; have := c.toNat_lt; have := d.toNat_lt
  have := e.toNat_lt; have := f.toNat_lt; have := g.toNat_lt; have := i.toNat_lt
  simp only [numL, List.foldl]
  unfold M64
  omega
theorem of_byN (x i : Nat) : (UInt8.ofNat (byN x i)).toNat = byN x i := by
  rw [UInt8.toNat_ofNat', Nat.mod_eq_of_lt (byN_lt x i)]
theorem byN_step (x i : Nat) : x / 2 ^ (8 * (i + 1)) * 256 + byN x i = x / 2 ^ (8 * i) := by
  unfold byN
  rw [show 8 * (i + 1) = 8 * i + 8 by omega, Nat.pow_add, ← Nat.div_div_eq_div_mul]
  omega
theorem halfL_eq (x : Nat) : halfL x = [UInt8.ofNat (byN x 7), UInt8.ofNat (byN x 6), UInt8.ofNat (byN x 5), UInt8.ofNat (byN x 4), UInt8.ofNat (byN x 3), UInt8.ofNat (byN x 2), UInt8.ofNat (byN x 1), UInt8.ofNat (byN x 0)] := rfl
theorem numL_halfL {x : Nat} (h : x < M64) : numL (halfL x) = x := by
  rw [halfL_eq]
  simp only [numL, List.foldl, of_byN]
  have e7 := byN_step x 7
  rw [show x / 2 ^ (8 * (7 + 1)) = 0 from Nat.div_eq_of_lt h] at e7
  rw [e7, byN_step x 6, byN_step x 5, byN_step x 4, byN_step x 3, byN_step x 2, byN_step x 1, byN_step x 0]
  simp
theorem numL_inj {l m : List UInt8} (h : l.length = 8) (h' : m.length = 8) (e : numL l = numL m) : l = m := by
  obtain ⟨a, b, c, d, e', f, g, i, rfl⟩ := eight h
  obtain ⟨a', b', c', d', e'', f', g', i', rfl⟩ := eight h'
  have := a.toNat_lt; have := b.toNat_lt; have := c.toNat_lt; have := d.toNat_lt
  have := e'.toNat_lt; have := f.toNat_lt; have := g.toNat_lt; have := i.toNat_lt
  have := a'.toNat_lt; have := b'.toNat_lt; have := c'.toNat_lt; have := d'.toNat_lt
  have := e''.toNat_lt; have := f'.toNat_lt; have := g'.toNat_lt; have := i'.toNat_lt
  simp only [numL, List.foldl] at e
  have k8 : i.toNat = i'.toNat := by omega
  have k7 : g.toNat = g'.toNat := by omega
  have k6 : f.toNat = f'.toNat := by omega
  have k5 : e'.toNat = e''.toNat := by omega
  have k4 : d.toNat = d'.toNat := by omega
  have k3 : c.toNat = c'.toNat := by omega
  have k2 : b.toNat = b'.toNat := by omega
  have k1 : a.toNat = a'.toNat := by omega
  rw [UInt8.toNat_inj.1 k1, UInt8.toNat_inj.1 k2, UInt8.toNat_inj.1 k3, UInt8.toNat_inj.1 k4, UInt8.toNat_inj.1 k5, UInt8.toNat_inj.1 k6, UInt8.toNat_inj.1 k7, UInt8.toNat_inj.1 k8]
theorem halfL_numL {l : List UInt8} (h : l.length = 8) : halfL (numL l) = l :=
  numL_inj (halfL_len _) h (numL_halfL (numL_lt h))
theorem halfL_inj {x y : Nat} (h : x < M64) (h' : y < M64) (e : halfL x = halfL y) : x = y := by
  rw [← numL_halfL h, e, numL_halfL h']

/-- One bit of eight bytes, counted from the left. -/
def bitL (l : List UInt8) (m : Nat) : Bool := (l.getD (m / 8) 0).toNat.testBit (7 - m % 8)
theorem numL_cut (l : List UInt8) : ∀ k, k ≤ l.length → numL (l.take k) = numL l / 256 ^ (l.length - k) := by
  intro k hk
  induction h : l.length - k generalizing k with
  | zero =>
    have : k = l.length := by omega
    subst this
    simp
  | succ n ih =>
    have e := ih (k + 1) (by omega) (by omega)
    rw [List.take_succ_eq_append_getElem (by omega), numL_snoc] at e
    have := l[k].toNat_lt
    rw [Nat.pow_succ, ← Nat.div_div_eq_div_mul, ← e]
    omega
theorem bitL_num {l : List UInt8} (h : l.length = 8) {m : Nat} (hm : m < 64) : bitL l m = (numL l).testBit (63 - m) := by
  have hk : m / 8 < l.length := by omega
  have e := numL_cut l (m / 8 + 1) (by omega)
  rw [List.take_succ_eq_append_getElem hk, numL_snoc, h] at e
  unfold bitL
  rw [show l.getD (m / 8) 0 = l[m / 8] by simp [List.getD, hk]]
  have hb := l[m / 8].toNat_lt
  have e2 : l[m / 8].toNat = numL l / 2 ^ (8 * (7 - m / 8)) % 2 ^ 8 := by
    rw [Nat.pow_mul, show (2 : Nat) ^ 8 = 256 from rfl, show 7 - m / 8 = 8 - (m / 8 + 1) by omega, ← e]
    omega
  rw [e2, Nat.testBit_mod_two_pow, Nat.testBit_div_two_pow, decide_eq_true (by omega), Bool.true_and]
  congr 1
  omega

/-- The numbers that the bits of bytes stand for, from one on. -/
def partL (l : List UInt8) (f : Nat) (m : Nat) : List Nat := ((List.range m).filter (bitL l)).map (f + ·)
theorem partL_succ (l : List UInt8) (f m : Nat) : partL l f (m + 1) = partL l f m ++ (if bitL l m = true then [f + m] else []) := by
  unfold partL
  rw [List.range_succ, List.filter_append, List.map_append]
  congr 1
  simp only [List.filter_cons, List.filter_nil]
  split <;> simp
theorem partL_len (l : List UInt8) (f m : Nat) : (partL l f m).length ≤ m := by
  unfold partL
  rw [List.length_map]
  exact Nat.le_trans (List.length_filter_le _ _) (by simp)
theorem partL_mem (l : List UInt8) (f m n : Nat) : n ∈ partL l f m ↔ f ≤ n ∧ n < f + m ∧ bitL l (n - f) = true := by
  unfold partL
  rw [List.mem_map]
  constructor
  · rintro ⟨k, hk, rfl⟩
    rw [List.mem_filter, List.mem_range] at hk
    exact ⟨by omega, by omega, by rw [show f + k - f = k by omega]; exact hk.2⟩
  · rintro ⟨h1, h2, h3⟩
    exact ⟨n - f, by rw [List.mem_filter, List.mem_range]; exact ⟨by omega, h3⟩, by omega⟩
/-- All but the first bit's. -/
def restL (l : List UInt8) (f : Nat) : List Nat := ((List.range' 1 63).filter (bitL l)).map (f + ·)
theorem partL_cons (l : List UInt8) (f : Nat) : partL l f 64 = (if bitL l 0 = true then [f] else []) ++ restL l f := by
  unfold partL restL
  rw [show List.range 64 = 0 :: List.range' 1 63 from by decide +kernel, List.filter_cons]
  split <;> simp
theorem restL_mem (l : List UInt8) (f n : Nat) : n ∈ restL l f ↔ f + 1 ≤ n ∧ n < f + 64 ∧ bitL l (n - f) = true := by
  unfold restL
  rw [List.mem_map]
  constructor
  · rintro ⟨k, hk, rfl⟩
    rw [List.mem_filter, List.mem_range'_1] at hk
    exact ⟨by omega, by omega, by rw [show f + k - f = k by omega]; exact hk.2⟩
  · rintro ⟨h1, h2, h3⟩
    exact ⟨n - f, by rw [List.mem_filter, List.mem_range'_1]; exact ⟨by omega, h3⟩, by omega⟩
theorem restL_len (l : List UInt8) (f : Nat) : (restL l f).length ≤ 63 := by
  unfold restL
  rw [List.length_map]
  exact Nat.le_trans (List.length_filter_le _ _) (by simp)

/-- One bit of a byte, by what is left of it. -/
theorem bit_step (c k : Nat) (_hc : c < 256) (hk : k < 8) : (c % 2 ^ (8 - k) < 256 ∧ 128 / 2 ^ k < 256 ∧ 1 ≤ 128 / 2 ^ k) ∧ 128 / 2 ^ k / 2 = 128 / 2 ^ (k + 1) ∧
    (c.testBit (7 - k) = true → 128 / 2 ^ k ≤ c % 2 ^ (8 - k) ∧ c % 2 ^ (8 - k) - 128 / 2 ^ k = c % 2 ^ (8 - (k + 1))) ∧ (c.testBit (7 - k) = false → c % 2 ^ (8 - k) < 128 / 2 ^ k ∧ c % 2 ^ (8 - k) = c % 2 ^ (8 - (k + 1))) := by
  simp only [Nat.testBit_eq_decide_div_mod_eq, decide_eq_true_eq, decide_eq_false_iff_not]
  match k, hk with
  | 0, _ => omega
  | 1, _ => omega
  | 2, _ => omega
  | 3, _ => omega
  | 4, _ => omega
  | 5, _ => omega
  | 6, _ => omega
  | 7, _ => omega

/-- The set of a bitmap's numbers. -/
theorem zi_mem (l : List Nat) (m : Int) : m ∈ zi l ↔ 0 ≤ m ∧ m.toNat ∈ l := by
  unfold zi
  rw [List.mem_map]
  constructor
  · rintro ⟨k, hk, rfl⟩
    exact ⟨by omega, by simpa using hk⟩
  · rintro ⟨h1, h2⟩
    exact ⟨m.toNat, h2, by omega⟩
theorem has_num1 {l : List UInt8} (h : l.length = 8) (y : Nat) (m : Int) (h1 : 1 ≤ m) (h2 : m ≤ 64) : hasN (numL l) y m = bitL l (m.toNat - 1) := by
  rw [bitL_num h (by omega)]
  unfold hasN
  rw [if_pos ⟨h1, h2⟩]
  congr 1
  omega
theorem has_num2 {l : List UInt8} (h : l.length = 8) (x : Nat) (m : Int) (h1 : 64 < m) (h2 : m ≤ 128) : hasN x (numL l) m = bitL l (m.toNat - 65) := by
  rw [bitL_num h (by omega)]
  unfold hasN
  rw [if_neg (by omega), if_pos ⟨h1, h2⟩]
  congr 1
  omega
theorem of_part {l : List UInt8} (h : l.length = 8) : ofH (zi (partL l 1 64)) = numL l ∧ ofL (zi (partL l 1 64)) = 0 := by
  refine set_ext (of_lt _).1 (of_lt _).2 (numL_lt h) (by decide) fun m => ?_
  rw [has_of]
  by_cases h1 : 1 ≤ m ∧ m ≤ 64
  · rw [has_num1 h 0 m h1.1 h1.2]
    cases hb : bitL l (m.toNat - 1)
    · rw [decide_eq_false]
      rw [zi_mem, partL_mem, hb]
      simp
    · rw [decide_eq_true]
      rw [zi_mem, partL_mem]
      exact ⟨⟨by omega, by omega, by omega, hb⟩, by omega, by omega⟩
  · rw [decide_eq_false (by rw [zi_mem, partL_mem]; omega)]
    unfold hasN
    rw [if_neg h1]
    simp [Nat.zero_testBit]
theorem of_rest {l k : List UInt8} (h : l.length = 8) (h' : k.length = 8) : ofH (zi (restL l 1 ++ partL k 65 64)) = numL l &&& (fullN - aH 1) ∧ ofL (zi (restL l 1 ++ partL k 65 64)) = numL k &&& (fullN - aL 1) := by
  refine set_ext (of_lt _).1 (of_lt _).2 (and_lt (numL_lt h)) (and_lt (numL_lt h')) fun m => ?_
  rw [has_of, has_without]
  by_cases h1 : 1 ≤ m ∧ m ≤ 64
  · rw [has_num1 h _ m h1.1 h1.2]
    cases hb : bitL l (m.toNat - 1)
    · rw [decide_eq_false]
      · rfl
      · rw [zi_mem, List.mem_append, restL_mem, partL_mem, hb]
        rintro ⟨⟨_, h | h⟩, _⟩
        · simp at h
        · omega
    · rw [Bool.true_and, ← decide_not, decide_eq_decide, zi_mem, List.mem_append, restL_mem, partL_mem]
      constructor
      · rintro ⟨⟨_, h | h⟩, _⟩ <;> omega
      · intro hm
        exact ⟨⟨by omega, .inl ⟨by omega, by omega, hb⟩⟩, by omega, by omega⟩
  by_cases h2 : 64 < m ∧ m ≤ 128
  · rw [has_num2 h' _ m h2.1 h2.2, show (!decide (m = 1)) = true by simp; omega, Bool.and_true]
    cases hb : bitL k (m.toNat - 65)
    · rw [decide_eq_false]
      rw [zi_mem, List.mem_append, restL_mem, partL_mem, hb]
      rintro ⟨⟨_, h | h⟩, _⟩
      · omega
      · simp at h
    · rw [decide_eq_true]
      rw [zi_mem, List.mem_append, restL_mem, partL_mem]
      exact ⟨⟨by omega, .inr ⟨by omega, by omega, hb⟩⟩, by omega, by omega⟩
  · rw [has_out _ _ m (by omega), decide_eq_false (by omega)]
    rfl
theorem part_nil {l : List UInt8} (h : l.length = 8) (f : Nat) : partL l f 64 = [] ↔ numL l = 0 := by
  constructor
  · intro e
    apply Nat.eq_of_testBit_eq
    intro j
    rw [Nat.zero_testBit]
    by_cases hj : j < 64
    · have hb := bitL_num h (m := 63 - j) (by omega)
      rw [show 63 - (63 - j) = j by omega] at hb
      rw [← hb]
      cases hc : bitL l (63 - j)
      · rfl
      · have := (partL_mem l f 64 (f + (63 - j))).2 ⟨by omega, by omega, by rw [show f + (63 - j) - f = 63 - j by omega]; exact hc⟩
        rw [e] at this
        cases this
    · exact lt_bit (numL_lt h) (by omega)
  · intro e
    apply List.eq_nil_iff_forall_not_mem.2
    intro n hn
    rw [partL_mem] at hn
    rw [bitL_num h (by omega), e, Nat.zero_testBit] at hn
    simp at hn

/-- The document's bytes of a list: bit by bit. -/
def bytesL (p : Nat → Bool) (b m : Nat) : List UInt8 := (List.range m).map fun i => UInt8.ofNat (accN p (b + 8 * i) 8)
theorem bytesL_succ (p : Nat → Bool) (b m : Nat) : bytesL p b (m + 1) = bytesL p b m ++ [UInt8.ofNat (accN p (b + 8 * m) 8)] := by
  unfold bytesL
  rw [List.range_succ, List.map_append]
  rfl
theorem bytesL_len (p : Nat → Bool) (b m : Nat) : (bytesL p b m).length = m := by simp [bytesL]
theorem accN_split (p : Nat → Bool) (b m : Nat) : ∀ n, accN p b (m + n) = accN p b m * 2 ^ n + accN p (b + m) n
  | 0 => by simp [accN]
  | n + 1 => by
    rw [← Nat.add_assoc]
    simp only [accN]
    rw [accN_split p b m n, Nat.pow_succ, show b + (m + n) + 1 = b + m + n + 1 by omega]
    rw [Nat.add_mul, Nat.mul_assoc]
    omega
theorem accN_byte (p : Nat → Bool) (b i : Nat) (hi : i < 8) : byN (accN p b 64) (7 - i) = accN p (b + 8 * i) 8 := by
  unfold byN
  have h1 := accN_split p b (8 * i + 8) (8 * (7 - i))
  rw [show 8 * i + 8 + 8 * (7 - i) = 64 by omega] at h1
  have h2 := accN_lt p (b + (8 * i + 8)) (8 * (7 - i))
  have h3 := accN_split p b (8 * i) 8
  have h4 := accN_lt p (b + 8 * i) 8
  rw [h1, Nat.mul_comm, Nat.mul_add_div (Nat.two_pow_pos _), Nat.div_eq_of_lt h2, Nat.add_zero, h3]
  omega
theorem bytesL_half (p : Nat → Bool) (b : Nat) : bytesL p b 8 = halfL (accN p b 64) := by
  unfold bytesL halfL
  apply List.map_congr_left
  intro i hi
  rw [List.mem_range] at hi
  rw [accN_byte p b i hi]

/-- A set's numbers, as a list, are the set again; with 1 ahead they are the set with 1. -/
theorem mem_list (h l : Nat) (m : Int) : m ∈ zi (listN h l 128) ↔ hasN h l m = true := by
  rw [zi_mem]
  unfold listN
  rw [List.mem_filter, List.mem_range'_1]
  constructor
  · rintro ⟨h1, h2, h3⟩
    rwa [show ((m.toNat : Nat) : Int) = m by omega] at h3
  · intro hm
    have := has_range hm
    exact ⟨by omega, by omega, by rw [show ((m.toNat : Nat) : Int) = m by omega]; exact hm⟩
theorem of_list {h l : Nat} (b1 : h < M64) (b2 : l < M64) : ofH (zi (listN h l 128)) = h ∧ ofL (zi (listN h l 128)) = l := by
  refine set_ext (of_lt _).1 (of_lt _).2 b1 b2 fun m => ?_
  rw [has_of]
  cases hm : hasN h l m
  · rw [decide_eq_false]
    rw [mem_list, hm]
    simp
  · have := has_range hm
    rw [decide_eq_true]
    rw [mem_list]
    exact ⟨hm, this.1, this.2⟩
theorem of_list1 {h l : Nat} (b1 : h < M64) (b2 : l < M64) : ofH (1 :: zi (listN h l 128)) = h ||| aH 1 := by
  refine (set_ext (of_lt (1 :: zi (listN h l 128))).1 (of_lt (1 :: zi (listN h l 128))).2 (or_lt b1 (aH_lt 1)) (or_lt b2 (aL_lt 1)) fun m => ?_).1
  have hmem : m ∈ 1 :: zi (listN h l 128) ↔ m = 1 ∨ hasN h l m = true := by rw [List.mem_cons, mem_list]
  rw [has_of, has_with]
  cases hm : hasN h l m
  · rw [Bool.false_or, decide_eq_decide, hmem, hm]
    simp
    omega
  · have := has_range hm
    rw [Bool.true_or, decide_eq_true]
    exact ⟨hmem.2 (.inr hm), this⟩
theorem low_zero {h l : Nat} (b2 : l < M64) : l = 0 ↔ ∀ m : Int, 64 < m → m ≤ 128 → hasN h l m = false := by
  constructor
  · rintro rfl m h1 h2
    unfold hasN
    rw [if_neg (by omega), if_pos ⟨h1, h2⟩, Nat.zero_testBit]
  · intro e
    apply Nat.eq_of_testBit_eq
    intro j
    rw [Nat.zero_testBit]
    by_cases hj : j < 64
    · rw [← has_low h l j hj]
      exact e _ (by omega) (by omega)
    · exact lt_bit b2 (by omega)

/-- What a half is spelled by, and what a place holds. -/
def spL (st : Nat) (l : List UInt8) : List UInt8 := if st = 1 then hputL l else l
def wid (st : Nat) : Nat := if st = 1 then 16 else 8
theorem spL_len {l : List UInt8} (st : Nat) (h : l.length = 8) : (spL st l).length = wid st := by
  unfold spL wid
  split
  · rw [hputL_length, h]
  · exact h
theorem spL_append (st : Nat) (a b : List UInt8) : spL st (a ++ b) = spL st a ++ spL st b := by
  unfold spL
  split
  · exact hputL_append a b
  · rfl
def rdB (st : Nat) (t : List UInt8) : Bool := if st = 1 then hgetB t else true
def rdL (st : Nat) (t : List UInt8) : List UInt8 := if st = 1 then hgetL t else t
theorem rdL_len {t : List UInt8} (st : Nat) (h : t.length = wid st) : (rdL st t).length = 8 := by
  unfold rdL
  unfold wid at h
  split at h
  · rw [if_pos (by assumption), hgetL_length, h]
  · rw [if_neg (by assumption), h]
theorem rd_sp {l : List UInt8} (st : Nat) : rdB st (spL st l) = true ∧ rdL st (spL st l) = l := by
  unfold rdB rdL spL
  by_cases h : st = 1
  · simp only [h, if_true]
    exact ⟨hgetB_hputL l, hgetL_hputL l⟩
  · simp [h]
theorem sp_rd {t : List UInt8} (st : Nat) (h : rdB st t = true) : spL st (rdL st t) = t := by
  unfold rdB at h
  unfold rdL spL
  by_cases hs : st = 1
  · simp only [hs, if_true] at *
    exact hputL_hgetL t (hgetB_iff h).1 (hgetB_iff h).2
  · simp [hs]

/-- A set's bitmap; what a bitmap at a place is. -/
def putL (st h l : Nat) : List UInt8 := if l = 0 then spL st (halfL h) else spL st (halfL (h ||| aH 1)) ++ spL st (halfL l)

/-- The document's bitmap of a list, ahead of its spelling. -/
def anyN (p : Nat → Bool) (m : Nat) : Bool := (List.range m).any fun i => p (65 + i)
theorem anyN_succ (p : Nat → Bool) (m : Nat) : anyN p (m + 1) = (anyN p m || p (65 + m)) := by
  unfold anyN
  rw [List.range_succ, List.any_append]
  simp
def inL (zs : List Int) (n : Nat) : Bool := decide ((n : Int) ∈ zs)
def outL (zs : List Int) : List UInt8 := if anyN (inL zs) 64 = true then bytesL (inL (1 :: zs)) 0 8 ++ bytesL (inL zs) 64 8 else bytesL (inL zs) 0 8
theorem outL_put {h l : Nat} (st : Nat) (b1 : h < M64) (b2 : l < M64) : spL st (outL (zi (listN h l 128))) = putL st h l := by
  have e1 := acc_of (zi (listN h l 128))
  have e2 := acc_of (1 :: zi (listN h l 128))
  have e3 := of_list b1 b2
  have e4 := of_list1 b1 b2
  have f1 : bytesL (inL (zi (listN h l 128))) 0 8 = halfL h := by rw [bytesL_half]; exact congrArg halfL (e1.1.trans e3.1)
  have f2 : bytesL (inL (zi (listN h l 128))) 64 8 = halfL l := by rw [bytesL_half]; exact congrArg halfL (e1.2.trans e3.2)
  have f3 : bytesL (inL (1 :: zi (listN h l 128))) 0 8 = halfL (h ||| aH 1) := by rw [bytesL_half]; exact congrArg halfL (e2.1.trans e4)
  unfold outL putL
  rw [f1, f2, f3]
  by_cases hl : l = 0
  · rw [if_pos hl, if_neg]
    intro ha
    unfold anyN at ha
    rw [List.any_eq_true] at ha
    obtain ⟨i, hi, ha⟩ := ha
    rw [List.mem_range] at hi
    unfold inL at ha
    rw [decide_eq_true_eq, mem_list, (low_zero b2).1 hl _ (by omega) (by omega)] at ha
    cases ha
  · rw [if_neg hl, if_pos, spL_append]
    cases ha : anyN (inL (zi (listN h l 128))) 64
    · exfalso
      apply hl
      rw [low_zero (h := h) b2]
      intro m h1 h2
      unfold anyN at ha
      rw [List.any_eq_false] at ha
      have := ha (m.toNat - 65) (by rw [List.mem_range]; omega)
      unfold inL at this
      rw [show ((65 + (m.toNat - 65) : Nat) : Int) = m by omega, decide_eq_true_eq, mem_list] at this
      simpa using this
    · rfl
theorem inL_one (h l : Nat) : inL (zi (listN h l 128)) 1 = hasN h l 1 := by
  unfold inL
  cases e : hasN h l 1
  · rw [decide_eq_false]
    rw [mem_list]
    simp [e]
  · rw [decide_eq_true]
    rw [mem_list]
    exact e

end Go.Proofs.Ytdnckiaeeikbhaa
