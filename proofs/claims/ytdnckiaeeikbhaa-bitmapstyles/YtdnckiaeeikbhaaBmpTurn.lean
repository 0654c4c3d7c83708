/-
  What is put is got, and what is got is put: plain facts on both.
-/
import Derived.Test.YtdnckiaeeikbhaaBmpAny
namespace Go.Proofs.Ytdnckiaeeikbhaa

theorem txt_eq (st : Nat) (s : ByteArray) (p : Nat) : txt st s p = (s.data.toList.drop p).take (wid st) := by
  unfold txt
  simp
theorem size_list (s : ByteArray) : s.data.toList.length = s.size := by rw [Array.length_toList]; rfl
theorem wid_pos (st : Nat) : 0 < wid st := by unfold wid; split <;> omega
theorem has_one (h l : Nat) : hasN h l 1 = h.testBit 63 := by
  unfold hasN
  rw [if_pos (by omega)]
  rfl
theorem low_keep {y : Nat} (b : y < M64) : y &&& (fullN - aL 1) = y := by
  rw [show fullN - aL 1 = 2 ^ 64 - 1 by decide +kernel, Nat.and_two_pow_sub_one_eq_mod]
  exact Nat.mod_eq_of_lt b
theorem low_add (y : Nat) : y ||| aL 1 = y := by
  rw [show aL 1 = 0 by decide +kernel, Nat.or_zero]
theorem high_drop {h : Nat} (b : h < M64) (e : hasN h 0 1 = false) : (h ||| aH 1) &&& (fullN - aH 1) = h := by
  refine (set_ext (h := (h ||| aH 1) &&& (fullN - aH 1)) (l := (0 ||| aL 1) &&& (fullN - aL 1)) (h' := h) (l' := 0) (and_lt (or_lt b (aH_lt 1))) (by decide +kernel) b (by decide) fun m => ?_).1
  rw [has_without, has_with]
  by_cases hm : m = 1
  · subst hm
    rw [e]
    rfl
  · simp [hm]
theorem high_add {x : Nat} (b : x < M64) (e : hasN x 0 1 = true) : (x &&& (fullN - aH 1)) ||| aH 1 = x := by
  refine (set_ext (h := (x &&& (fullN - aH 1)) ||| aH 1) (l := (0 &&& (fullN - aL 1)) ||| aL 1) (h' := x) (l' := 0) (or_lt (and_lt b) (aH_lt 1)) (by decide +kernel) b (by decide) fun m => ?_).1
  rw [has_with, has_without]
  by_cases hm : m = 1
  · subst hm
    rw [e]
    rfl
  · simp [hm]
theorem high_has (h : Nat) : hasN (h ||| aH 1) 0 1 = true := by
  have := has_with h 0 1 1
  rw [low_add] at this
  rw [this]
  simp

/-- A half that stands at a place is read as it is. -/
theorem rd_at {st : Nat} {s : ByteArray} {p x : Nat} {a c : List UInt8} (b : x < M64) (hs : s.data.toList = a ++ (spL st (halfL x) ++ c)) (hp : p = a.length) : rdE st s p = 0 ∧ rdN st s p = x := by
  have hl := spL_len st (halfL_len x)
  have ht : txt st s p = spL st (halfL x) := by
    rw [txt_eq, hs, hp, List.drop_left, ← hl, List.take_left]
  have hsz : ¬ s.size < p + wid st := by
    rw [← size_list, hs]
    simp only [List.length_append]
    omega
  unfold rdE rdN
  rw [ht, (rd_sp st).1, (rd_sp st).2, if_neg hsz]
  exact ⟨rfl, numL_halfL b⟩
theorem putL_len (st h l : Nat) : (putL st h l).length = if l = 0 then wid st else 2 * wid st := by
  unfold putL
  split
  · exact spL_len st (halfL_len h)
  · rw [List.length_append, spL_len st (halfL_len _), spL_len st (halfL_len _)]
    omega
theorem getN_put {st : Nat} {s : ByteArray} {p h l : Nat} {a c : List UInt8} (b1 : h < M64) (b2 : l < M64) (e : hasN h l 1 = false) (hs : s.data.toList = a ++ (putL st h l ++ c)) (hp : p = a.length) :
    getN st s p = ⟨h, l, p + (putL st h l).length, 0⟩ := by
  have e0 : hasN h 0 1 = false := by rw [has_one] at *; exact e
  rw [putL_len]
  unfold putL at hs
  by_cases hl : l = 0
  · subst hl
    rw [if_pos rfl] at hs ⊢
    obtain ⟨r1, r2⟩ := rd_at b1 hs hp
    unfold getN
    rw [if_neg (by omega), r2, if_pos e0]
  · rw [if_neg hl] at hs ⊢
    have hs1 : s.data.toList = a ++ (spL st (halfL (h ||| aH 1)) ++ (spL st (halfL l) ++ c)) := by rw [hs, List.append_assoc]
    have hs2 : s.data.toList = (a ++ spL st (halfL (h ||| aH 1))) ++ (spL st (halfL l) ++ c) := by rw [hs1, List.append_assoc]
    have bh := or_lt b1 (aH_lt 1)
    obtain ⟨r1, r2⟩ := rd_at bh hs1 hp
    obtain ⟨r3, r4⟩ := rd_at (p := p + wid st) b2 hs2 (by rw [List.length_append, spL_len st (halfL_len _), hp])
    unfold getN
    rw [if_neg (by omega), r2, if_neg (by rw [high_has]; simp), if_neg (by omega), r4, if_neg hl, high_drop b1 e0, low_keep b2]

theorem sp_at {st : Nat} {s : ByteArray} {p : Nat} (h : rdE st s p = 0) : spL st (halfL (rdN st s p)) = (s.data.toList.drop p).take (wid st) := by
  unfold rdN
  rw [halfL_numL (rd_len h), sp_rd st (rdE_zero h).2, txt_eq]
theorem put_getN {st : Nat} {s : ByteArray} (e : (getN st s 0).err = 0) :
    ((getN st s 0).high < M64 ∧ (getN st s 0).low < M64 ∧ hasN (getN st s 0).high (getN st s 0).low 1 = false) ∧ (getN st s 0).next ≤ s.size ∧ putL st (getN st s 0).high (getN st s 0).low = s.data.toList.take (getN st s 0).next := by
  unfold getN at *
  by_cases h1 : rdE st s 0 = 0
  · rw [if_neg (by omega)] at e ⊢
    have z1 := (rdE_zero h1).1
    have s1 := sp_at h1
    have b1 := rdN_lt h1
    rw [List.drop_zero] at s1
    cases h2 : hasN (rdN st s 0) 0 1
    · rw [h2, if_pos rfl] at e
      rw [if_pos rfl]
      refine ⟨⟨b1, by show (0 : Nat) < M64; decide, h2⟩, by show 0 + wid st ≤ s.size; omega, ?_⟩
      show putL st (rdN st s 0) 0 = s.data.toList.take (0 + wid st)
      unfold putL
      rw [if_pos rfl, s1, Nat.zero_add]
    · rw [h2, if_neg (by simp)] at e
      rw [if_neg (by simp)]
      by_cases h3 : rdE st s (0 + wid st) = 0
      · rw [if_neg (by omega)] at e ⊢
        by_cases h4 : rdN st s (0 + wid st) = 0
        · rw [if_pos h4] at e
          cases e
        · rw [if_neg h4]
          have z3 := (rdE_zero h3).1
          have s3 := sp_at h3
          have b3 := rdN_lt h3
          rw [low_keep b3]
          refine ⟨⟨and_lt b1, b3, ?_⟩, by show 0 + 2 * wid st ≤ s.size; omega, ?_⟩
          · show hasN (rdN st s 0 &&& (fullN - aH 1)) (rdN st s (0 + wid st)) 1 = false
            have := has_without (rdN st s 0) 0 1 1
            rw [has_one] at this ⊢
            rw [this]
            simp
          · show putL st (rdN st s 0 &&& (fullN - aH 1)) (rdN st s (0 + wid st)) = s.data.toList.take (0 + 2 * wid st)
            unfold putL
            rw [if_neg h4, high_add b1 h2, s1, s3, Nat.zero_add, Nat.zero_add, Nat.two_mul, List.take_add]
      · rw [if_pos h3] at e
        exact absurd e h3
  · rw [if_pos h1] at e
    exact absurd e h1
theorem getN_err {st : Nat} {s : ByteArray} {p : Nat} (e : (getN st s p).err ≠ 0) : (getN st s p).high = 0 ∧ (getN st s p).low = 0 ∧ (getN st s p).next = 0 := by
  unfold getN at *
  by_cases h1 : rdE st s p = 0
  · rw [if_neg (by omega)] at e ⊢
    cases h2 : hasN (rdN st s p) 0 1
    · rw [h2, if_pos rfl] at e
      exact absurd rfl e
    · rw [h2, if_neg (by simp)] at e
      rw [if_neg (by simp)]
      by_cases h3 : rdE st s (p + wid st) = 0
      · rw [if_neg (by omega)] at e ⊢
        by_cases h4 : rdN st s (p + wid st) = 0
        · rw [if_pos h4]
          exact ⟨rfl, rfl, rfl⟩
        · rw [if_neg h4] at e
          exact absurd rfl e
      · rw [if_pos h3]
        exact ⟨rfl, rfl, rfl⟩
  · rw [if_pos h1]
    exact ⟨rfl, rfl, rfl⟩

end Go.Proofs.Ytdnckiaeeikbhaa
