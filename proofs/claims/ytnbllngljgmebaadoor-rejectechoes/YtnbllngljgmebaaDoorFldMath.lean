/-
  Sets of numbers from 1 to 128 as two numbers of 64 bits: plain arithmetic, no program.
-/
import Derived.Test.YtnbllngljgmebaaDoorFldPop
namespace Go.Proofs.YtnbllngljgmebaaDoor
open Go.Lib

abbrev M64 : Nat := 18446744073709551616
def fullN : Nat := 18446744073709551615
/-- The set of one number. -/
def aH (n : Int) : Nat := if 1 ≤ n ∧ n ≤ 64 then 2 ^ (64 - n).toNat else 0
def aL (n : Int) : Nat := if 64 < n ∧ n ≤ 128 then 2 ^ (128 - n).toNat else 0
/-- The set of all numbers above one. -/
def bH (n : Int) : Nat := if n ≤ 0 then fullN else if n ≤ 64 then fullN / 2 ^ n.toNat else 0
def bL (n : Int) : Nat := if n ≤ 64 then fullN else if n ≤ 128 then fullN / 2 ^ (n - 64).toNat else 0
def hasN (h l : Nat) (n : Int) : Bool :=
  if 1 ≤ n ∧ n ≤ 64 then h.testBit (64 - n).toNat else if 64 < n ∧ n ≤ 128 then l.testBit (128 - n).toNat else false
def nextN (h l : Nat) (n : Int) : Nat :=
  if h &&& bH n ≠ 0 then 64 - bitLen (h &&& bH n) + 1 else if l &&& bL n ≠ 0 then 64 - bitLen (l &&& bL n) + 64 + 1 else 0

theorem full_bit (j : Nat) : fullN.testBit j = decide (j < 64) := by
  rw [show fullN = 2 ^ 64 - 1 from rfl, Nat.testBit_two_pow_sub_one]
theorem lt_bit {h : Nat} (hh : h < M64) {j : Nat} (hj : 64 ≤ j) : h.testBit j = false :=
  Nat.testBit_lt_two_pow (Nat.lt_of_lt_of_le hh (by rw [show M64 = 2 ^ 64 from rfl]; exact Nat.pow_le_pow_right (by omega) hj))
theorem pow_lt64 {k : Nat} (hk : k < 64) : 2 ^ k < M64 := by rw [show M64 = 2 ^ 64 from rfl]; exact Nat.pow_lt_pow_right (by omega) hk
theorem aH_lt (n : Int) : aH n < M64 := by
  unfold aH
  split
  · exact pow_lt64 (by omega)
  · decide
theorem aL_lt (n : Int) : aL n < M64 := by
  unfold aL
  split
  · exact pow_lt64 (by omega)
  · decide
theorem bH_lt (n : Int) : bH n < M64 := by
  unfold bH
  split
  · decide
  · split
    · exact Nat.lt_of_le_of_lt (Nat.div_le_self _ _) (by decide)
    · decide
theorem bL_lt (n : Int) : bL n < M64 := by
  unfold bL
  split
  · decide
  · split
    · exact Nat.lt_of_le_of_lt (Nat.div_le_self _ _) (by decide)
    · decide
theorem and_lt {a b : Nat} (ha : a < M64) : a &&& b < M64 := Nat.lt_of_le_of_lt Nat.and_le_left ha
theorem or_lt {a b : Nat} (ha : a < M64) (hb : b < M64) : a ||| b < M64 := by
  rw [show M64 = 2 ^ 64 from rfl] at *
  exact Nat.or_lt_two_pow ha hb
theorem aH_bit (n : Int) (j : Nat) : (aH n).testBit j = decide ((j : Int) = 64 - n ∧ 1 ≤ n ∧ n ≤ 64) := by
  unfold aH
  split
  · rename_i h
    rw [Nat.testBit_two_pow, decide_eq_decide]
    omega
  · rename_i h
    simp [Nat.zero_testBit]
    omega
theorem aL_bit (n : Int) (j : Nat) : (aL n).testBit j = decide ((j : Int) = 128 - n ∧ 64 < n ∧ n ≤ 128) := by
  unfold aL
  split
  · rename_i h
    rw [Nat.testBit_two_pow, decide_eq_decide]
    omega
  · rename_i h
    simp [Nat.zero_testBit]
    omega
theorem bH_bit (n : Int) (j : Nat) : (bH n).testBit j = decide (j < 64 ∧ n < 64 - (j : Int)) := by
  unfold bH
  split
  · rw [full_bit, decide_eq_decide]
    omega
  · split
    · rw [Nat.testBit_div_two_pow, full_bit, decide_eq_decide]
      omega
    · simp [Nat.zero_testBit]
      omega
theorem bL_bit (n : Int) (j : Nat) : (bL n).testBit j = decide (j < 64 ∧ n < 128 - (j : Int)) := by
  unfold bL
  split
  · rw [full_bit, decide_eq_decide]
    omega
  · split
    · rw [Nat.testBit_div_two_pow, full_bit, decide_eq_decide]
      omega
    · simp [Nat.zero_testBit]
      omega
theorem comp_bit {x : Nat} (hx : x < M64) (j : Nat) : (fullN - x).testBit j = (decide (j < 64) && !x.testBit j) := by
  rw [show fullN - x = 2 ^ 64 - (x + 1) by unfold fullN; omega, Nat.testBit_two_pow_sub_succ (by simpa [M64] using hx)]

/-- Bits by numbers. -/
theorem has_high (h l : Nat) (j : Nat) (hj : j < 64) : hasN h l (64 - (j : Int)) = h.testBit j := by
  unfold hasN
  rw [if_pos (by omega), show (64 - (64 - (j : Int))).toNat = j by omega]
theorem has_low (h l : Nat) (j : Nat) (hj : j < 64) : hasN h l (128 - (j : Int)) = l.testBit j := by
  unfold hasN
  rw [if_neg (by omega), if_pos (by omega), show (128 - (128 - (j : Int))).toNat = j by omega]
theorem has_out (h l : Nat) (n : Int) (hn : n < 1 ∨ 128 < n) : hasN h l n = false := by
  unfold hasN
  rw [if_neg (by omega), if_neg (by omega)]
theorem set_ext {h l h' l' : Nat} (b1 : h < M64) (b2 : l < M64) (b3 : h' < M64) (b4 : l' < M64) (e : ∀ n : Int, hasN h l n = hasN h' l' n) : h = h' ∧ l = l' := by
  constructor
  · apply Nat.eq_of_testBit_eq
    intro j
    by_cases hj : j < 64
    · rw [← has_high h l j hj, ← has_high h' l' j hj, e]
    · rw [lt_bit b1 (by omega), lt_bit b3 (by omega)]
  · apply Nat.eq_of_testBit_eq
    intro j
    by_cases hj : j < 64
    · rw [← has_low h l j hj, ← has_low h' l' j hj, e]
    · rw [lt_bit b2 (by omega), lt_bit b4 (by omega)]
theorem has_both (h l h' l' : Nat) (n : Int) : hasN (h &&& h') (l &&& l') n = (hasN h l n && hasN h' l' n) := by
  unfold hasN
  split
  · rw [Nat.testBit_and]
  · split
    · rw [Nat.testBit_and]
    · rfl
theorem has_either (h l h' l' : Nat) (n : Int) : hasN (h ||| h') (l ||| l') n = (hasN h l n || hasN h' l' n) := by
  unfold hasN
  split
  · rw [Nat.testBit_or]
  · split
    · rw [Nat.testBit_or]
    · rfl
theorem has_alone (n m : Int) : hasN (aH n) (aL n) m = decide (m = n ∧ 1 ≤ n ∧ n ≤ 128) := by
  unfold hasN
  split
  · rw [aH_bit, decide_eq_decide]
    omega
  · split
    · rw [aL_bit, decide_eq_decide]
      omega
    · simp
      omega
theorem has_with (h l : Nat) (n m : Int) : hasN (h ||| aH n) (l ||| aL n) m = (hasN h l m || decide (m = n ∧ 1 ≤ n ∧ n ≤ 128)) := by
  rw [has_either, has_alone]
theorem has_comp (n m : Int) (hm : 1 ≤ m ∧ m ≤ 128) : hasN (fullN - aH n) (fullN - aL n) m = !decide (m = n ∧ 1 ≤ n ∧ n ≤ 128) := by
  unfold hasN
  split
  · rw [comp_bit (aH_lt n), aH_bit, decide_eq_true (by omega), Bool.true_and]
    congr 1
    rw [decide_eq_decide]
    omega
  · rw [if_pos (by omega), comp_bit (aL_lt n), aL_bit, decide_eq_true (by omega), Bool.true_and]
    congr 1
    rw [decide_eq_decide]
    omega
theorem has_without (h l : Nat) (n m : Int) : hasN (h &&& (fullN - aH n)) (l &&& (fullN - aL n)) m = (hasN h l m && !decide (m = n)) := by
  rw [has_both]
  by_cases hm : 1 ≤ m ∧ m ≤ 128
  · rw [has_comp n m hm]
    by_cases e : m = n
    · subst e; simp [hm]
    · simp [e]
  · rw [has_out h l m (by omega), Bool.false_and, Bool.false_and]
/-- A number is in a set just if the set without it is another. -/
theorem has_iff {h l : Nat} (b1 : h < M64) (b2 : l < M64) (n : Int) : (decide ((h &&& (fullN - aH n)) = h) && decide ((l &&& (fullN - aL n)) = l)) = !hasN h l n := by
  cases hc : hasN h l n
  · have he := set_ext (h := h &&& (fullN - aH n)) (l := l &&& (fullN - aL n)) (h' := h) (l' := l) (and_lt b1) (and_lt b2) b1 b2 (fun m => by
      rw [has_without]
      by_cases e : m = n
      · subst e; rw [hc]; rfl
      · simp [e])
    simp [he]
  · by_cases e1 : (h &&& (fullN - aH n)) = h
    · by_cases e2 : (l &&& (fullN - aL n)) = l
      · have hh := has_without h l n n
        rw [e1, e2, hc] at hh
        simp at hh
      · simp [e2]
    · simp [e1]

/-- The greatest bit. -/
theorem bitLenAux_top : ∀ (f x : Nat), x < 2 ^ f → x ≠ 0 → bitLenAux f x ≠ 0 ∧ x < 2 ^ bitLenAux f x ∧ 2 ^ (bitLenAux f x - 1) ≤ x
  | 0, x, h, h0 => by simp at h; omega
  | f + 1, x, h, h0 => by
    simp only [bitLenAux, if_neg h0]
    by_cases h2 : x / 2 = 0
    · rw [h2]
      have : bitLenAux f 0 = 0 := by cases f <;> simp [bitLenAux]
      rw [this]
      refine ⟨by omega, by omega, by simp; omega⟩
    · obtain ⟨h3, h4, h5⟩ := bitLenAux_top f (x / 2) (by rw [Nat.pow_succ] at h; omega) h2
      obtain ⟨q, hq⟩ : ∃ q, bitLenAux f (x / 2) = q + 1 := ⟨bitLenAux f (x / 2) - 1, by omega⟩
      rw [hq] at h4 h5 ⊢
      simp only [Nat.add_sub_cancel] at h5
      refine ⟨by omega, ?_, ?_⟩
      · rw [show 1 + (q + 1) = (q + 1) + 1 by omega, Nat.pow_succ]; omega
      · rw [show 1 + (q + 1) - 1 = q + 1 by omega, Nat.pow_succ]; omega
theorem bitLen_top {x : Nat} (hx : x < M64) (h0 : x ≠ 0) : 1 ≤ bitLen x ∧ bitLen x ≤ 64 ∧ x.testBit (bitLen x - 1) = true ∧ ∀ j, bitLen x ≤ j → x.testBit j = false := by
  obtain ⟨h1, h2, h3⟩ := bitLenAux_top 64 x (by simpa [M64] using hx) h0
  change bitLen x ≠ 0 at h1
  change x < 2 ^ bitLen x at h2
  change 2 ^ (bitLen x - 1) ≤ x at h3
  have h4 := bitLen_le x 64 (Nat.le_refl _) (by simpa [M64] using hx)
  refine ⟨by omega, h4, ?_, fun j hj => Nat.testBit_lt_two_pow (Nat.lt_of_lt_of_le h2 (Nat.pow_le_pow_right (by omega) hj))⟩
  rw [Nat.testBit_eq_decide_div_mod_eq, decide_eq_true_eq]
  have h5 : x < 2 * 2 ^ (bitLen x - 1) := by
    rw [show 2 * 2 ^ (bitLen x - 1) = 2 ^ (bitLen x - 1 + 1) by rw [Nat.pow_succ, Nat.mul_comm], show bitLen x - 1 + 1 = bitLen x by omega]
    exact h2
  have h6 : x / 2 ^ (bitLen x - 1) = 1 := by
    apply Nat.div_eq_of_lt_le <;> omega
  rw [h6]

/-- r is the least number above n in the set; 0, if there is none. -/
def IsNext (h l : Nat) (n : Int) (r : Nat) : Prop :=
  (r ≠ 0 → n < (r : Int) ∧ hasN h l r = true ∧ ∀ k : Int, n < k → k < (r : Int) → hasN h l k = false) ∧ (r = 0 → ∀ k : Int, n < k → hasN h l k = false)
theorem next_is {h l : Nat} (b1 : h < M64) (b2 : l < M64) (n : Int) : IsNext h l n (nextN h l n) := by
  unfold nextN
  have hb : ∀ k : Int, n < k → hasN h l k = hasN (h &&& bH n) (l &&& bL n) k := by
    intro k hk
    unfold hasN
    split
    · rw [Nat.testBit_and, bH_bit, decide_eq_true (by omega), Bool.and_true]
    · split
      · rw [Nat.testBit_and, bL_bit, decide_eq_true (by omega), Bool.and_true]
      · rfl
  split
  · rename_i h0
    obtain ⟨g1, g2, g3, g4⟩ := bitLen_top (and_lt (b := bH n) b1) h0
    have g5 := g3
    rw [Nat.testBit_and, bH_bit, Bool.and_eq_true, decide_eq_true_eq] at g5
    generalize hB : bitLen (h &&& bH n) = B at *
    have en : ((64 - B + 1 : Nat) : Int) = 64 - ((B - 1 : Nat) : Int) := by omega
    refine ⟨fun _ => ⟨by omega, ?_, fun k h1 h2 => ?_⟩, fun h => by omega⟩
    · rw [en, has_high _ _ _ (by omega)]
      exact g5.1
    · rw [hb k h1]
      by_cases hk : 1 ≤ k
      · rw [show k = 64 - ((64 - k).toNat : Int) by omega, has_high _ _ _ (by omega)]
        exact g4 _ (by omega)
      · exact has_out _ _ _ (by omega)
  · rename_i h0
    have h0' : h &&& bH n = 0 := by omega
    split
    · rename_i h3
      obtain ⟨g1, g2, g3, g4⟩ := bitLen_top (and_lt (b := bL n) b2) h3
      have g5 := g3
      rw [Nat.testBit_and, bL_bit, Bool.and_eq_true, decide_eq_true_eq] at g5
      generalize hB : bitLen (l &&& bL n) = B at *
      have en : ((64 - B + 64 + 1 : Nat) : Int) = 128 - ((B - 1 : Nat) : Int) := by omega
      refine ⟨fun _ => ⟨by omega, ?_, fun k h1 h2 => ?_⟩, fun h => by omega⟩
      · rw [en, has_low _ _ _ (by omega)]
        exact g5.1
      · rw [hb k h1, h0']
        by_cases hk : 64 < k
        · rw [show k = 128 - ((128 - k).toNat : Int) by omega, has_low _ _ _ (by omega)]
          exact g4 _ (by omega)
        · by_cases hk1 : 1 ≤ k
          · rw [show k = 64 - ((64 - k).toNat : Int) by omega, has_high _ _ _ (by omega), Nat.zero_testBit]
          · exact has_out _ _ _ (by omega)
    · rename_i h3
      refine ⟨fun h => absurd rfl h, fun _ k hk => ?_⟩
      rw [hb k hk, h0', show l &&& bL n = 0 by omega]
      unfold hasN
      simp [Nat.zero_testBit]
theorem IsNext.uniq {h l : Nat} {n : Int} {r r' : Nat} (a : IsNext h l n r) (b : IsNext h l n r') : r = r' := by
  by_cases h1 : r = 0
  · by_cases h2 : r' = 0
    · omega
    · obtain ⟨c1, c2, _⟩ := b.1 h2
      rw [a.2 h1 _ c1] at c2
      cases c2
  · obtain ⟨d1, d2, d3⟩ := a.1 h1
    by_cases h2 : r' = 0
    · rw [b.2 h2 _ d1] at d2
      cases d2
    · obtain ⟨c1, c2, c3⟩ := b.1 h2
      rcases Nat.lt_trichotomy r r' with h | h | h
      · rw [c3 _ d1 (by omega)] at d2; cases d2
      · exact h
      · rw [d3 _ c1 (by omega)] at c2; cases c2
theorem has_range {h l : Nat} {n : Int} (e : hasN h l n = true) : 1 ≤ n ∧ n ≤ 128 := by
  by_cases hn : n < 1 ∨ 128 < n
  · rw [has_out _ _ _ hn] at e; cases e
  · omega
theorem next_le (h l : Nat) (b1 : h < M64) (b2 : l < M64) (n : Int) : nextN h l n ≤ 128 := by
  by_cases h0 : nextN h l n = 0
  · omega
  · have := has_range ((next_is b1 b2 n).1 h0).2.1
    omega

/-- The numbers up to m, rising. -/
def listN (h l : Nat) (m : Nat) : List Nat := (List.range' 1 m).filter fun k => hasN h l (k : Int)
theorem listN_succ (h l m : Nat) : listN h l (m + 1) = listN h l m ++ (if hasN h l ((m + 1 : Nat) : Int) = true then [m + 1] else []) := by
  unfold listN
  rw [show List.range' 1 (m + 1) = List.range' 1 m ++ [m + 1] from by rw [List.range'_1_concat, Nat.add_comm 1 m], List.filter_append]
  congr 1
  simp only [List.filter_cons, List.filter_nil]
theorem listN_gap (h l : Nat) (a : Nat) : ∀ d, (∀ k : Int, (a : Int) < k → k ≤ ((a + d : Nat) : Int) → hasN h l k = false) → listN h l (a + d) = listN h l a
  | 0, _ => rfl
  | d + 1, e => by
    rw [← Nat.add_assoc, listN_succ, listN_gap h l a d (fun k h1 h2 => e k h1 (by omega)), e _ (by omega) (by omega)]
    simp
theorem listN_next {h l : Nat} (b1 : h < M64) (b2 : l < M64) {m r : Nat} (hr : nextN h l (m : Int) = r) (h0 : r ≠ 0) : listN h l r = listN h l m ++ [r] := by
  obtain ⟨c1, c2, c3⟩ := (next_is b1 b2 (m : Int)).1 (by rw [hr]; exact h0)
  rw [hr] at c1 c2 c3
  obtain ⟨d, rfl⟩ : ∃ d, r = (m + d) + 1 := ⟨r - m - 1, by omega⟩
  rw [listN_succ, listN_gap h l m d (fun k h1 h2 => c3 k h1 (by omega)), if_pos c2]
theorem listN_end {h l : Nat} (b1 : h < M64) (b2 : l < M64) {m : Nat} (hm : m ≤ 128) (h0 : nextN h l (m : Int) = 0) : listN h l m = listN h l 128 := by
  have c := (next_is b1 b2 (m : Int)).2 h0
  obtain ⟨d, hd⟩ : ∃ d, 128 = m + d := ⟨128 - m, by omega⟩
  rw [hd, listN_gap h l m d (fun k h1 _ => c k h1)]
theorem listN_length_le (h l m : Nat) : (listN h l m).length ≤ m := by
  unfold listN
  exact Nat.le_trans (List.length_filter_le _ _) (by simp)

theorem rev_high : (List.range' 1 64).map (fun k => 64 - k) = (List.range 64).reverse := by decide +kernel
theorem rev_low : (List.range' 65 64).map (fun k => 128 - k) = (List.range 64).reverse := by decide +kernel
theorem listN_len (h l : Nat) : (listN h l 128).length = onesCount h + onesCount l := by
  unfold listN
  rw [← List.countP_eq_length_filter, show List.range' 1 128 = List.range' 1 64 ++ List.range' 65 64 from by decide +kernel, List.countP_append, onesCount, onesCount, popAux_count, popAux_count]
  congr 1
  · rw [← List.countP_reverse (l := List.range 64), ← rev_high, List.countP_map]
    apply List.countP_congr
    intro k hk
    rw [List.mem_range'_1] at hk
    simp only [Function.comp]
    rw [show (k : Int) = 64 - ((64 - k : Nat) : Int) by omega, has_high _ _ _ (by omega)]
  · rw [← List.countP_reverse (l := List.range 64), ← rev_low, List.countP_map]
    apply List.countP_congr
    intro k hk
    rw [List.mem_range'_1] at hk
    simp only [Function.comp]
    rw [show (k : Int) = 128 - ((128 - k : Nat) : Int) by omega, has_low _ _ _ (by omega)]

/-- The set of a list of numbers. -/
def ofH (l : List Int) : Nat := l.foldl (fun h n => h ||| aH n) 0
def ofL (l : List Int) : Nat := l.foldl (fun h n => h ||| aL n) 0
theorem of_snoc (l : List Int) (n : Int) : ofH (l ++ [n]) = ofH l ||| aH n ∧ ofL (l ++ [n]) = ofL l ||| aL n := by
  simp [ofH, ofL]
theorem of_lt (l : List Int) : ofH l < M64 ∧ ofL l < M64 := by
  have h : ∀ (l : List Int) (a b : Nat), a < M64 → b < M64 → l.foldl (fun h n => h ||| aH n) a < M64 ∧ l.foldl (fun h n => h ||| aL n) b < M64 := by
    intro l
    induction l with
    | nil => intro a b h1 h2; exact ⟨h1, h2⟩
    | cons n l ih => intro a b h1 h2; exact ih _ _ (or_lt h1 (aH_lt n)) (or_lt h2 (aL_lt n))
  exact h l 0 0 (by decide) (by decide)
theorem has_of (l : List Int) (m : Int) : hasN (ofH l) (ofL l) m = decide (m ∈ l ∧ 1 ≤ m ∧ m ≤ 128) := by
  have h : ∀ (l : List Int) (a b : Nat), hasN (l.foldl (fun h n => h ||| aH n) a) (l.foldl (fun h n => h ||| aL n) b) m = (hasN a b m || decide (m ∈ l ∧ 1 ≤ m ∧ m ≤ 128)) := by
    intro l
    induction l with
    | nil => intro a b; simp
    | cons n l ih =>
      intro a b
      rw [List.foldl_cons, List.foldl_cons, ih, has_with, Bool.or_assoc]
      congr 1
      rw [← Bool.decide_or, decide_eq_decide, List.mem_cons]
      constructor
      · rintro (h | h)
        · exact ⟨.inl h.1, by omega, by omega⟩
        · exact ⟨.inr h.1, h.2⟩
      · rintro ⟨h | h, h2⟩
        · exact .inl ⟨h, by omega⟩
        · exact .inr ⟨h, h2⟩
  unfold ofH ofL
  rw [h]
  simp [hasN, Nat.zero_testBit]

/-- The document's Halves: bit by bit, from the left. -/
def accN (p : Nat → Bool) (b : Nat) : Nat → Nat
  | 0 => 0
  | k + 1 => accN p b k * 2 + (if p (b + k + 1) = true then 1 else 0)
theorem accN_lt (p : Nat → Bool) (b : Nat) : ∀ k, accN p b k < 2 ^ k
  | 0 => by simp [accN]
  | k + 1 => by
    have := accN_lt p b k
    simp only [accN, Nat.pow_succ]
    split <;> omega
theorem accN_bit (p : Nat → Bool) (b : Nat) : ∀ k j, j < k → (accN p b k).testBit j = p (b + (k - j))
  | 0, j, h => by omega
  | k + 1, 0, _ => by
    simp only [accN, Nat.testBit_zero]
    cases hp : p (b + k + 1)
    · simp [Nat.add_assoc] at *
    · simp [Nat.add_assoc] at *
  | k + 1, j + 1, h => by
    rw [Nat.testBit_succ]
    simp only [accN]
    rw [show (accN p b k * 2 + (if p (b + k + 1) = true then 1 else 0)) / 2 = accN p b k by split <;> omega, accN_bit p b k j (by omega), show k + 1 - (j + 1) = k - j by omega]
theorem acc_of (l : List Int) : accN (fun n => decide ((n : Int) ∈ l)) 0 64 = ofH l ∧ accN (fun n => decide ((n : Int) ∈ l)) 64 64 = ofL l := by
  have b1 := accN_lt (fun n => decide ((n : Int) ∈ l)) 0 64
  have b2 := accN_lt (fun n => decide ((n : Int) ∈ l)) 64 64
  refine set_ext (by simpa [M64] using b1) (by simpa [M64] using b2) (of_lt l).1 (of_lt l).2 fun n => ?_
  rw [has_of]
  unfold hasN
  split
  · rename_i h
    rw [accN_bit _ _ _ _ (by omega), decide_eq_decide, show ((0 + (64 - (64 - n).toNat) : Nat) : Int) = n by omega]
    exact ⟨fun e => ⟨e, by omega⟩, fun e => e.1⟩
  · split
    · rename_i h
      rw [accN_bit _ _ _ _ (by omega), decide_eq_decide, show ((64 + (64 - (128 - n).toNat) : Nat) : Int) = n by omega]
      exact ⟨fun e => ⟨e, by omega⟩, fun e => e.1⟩
    · simp
      omega
theorem of_rev (l m : List Int) (h : ∀ n, n ∈ l ↔ n ∈ m) : ofH l = ofH m ∧ ofL l = ofL m :=
  set_ext (of_lt l).1 (of_lt l).2 (of_lt m).1 (of_lt m).2 fun n => by rw [has_of, has_of, decide_eq_decide, h]

end Go.Proofs.YtnbllngljgmebaaDoor
