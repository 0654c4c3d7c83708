/-
  Texts of one family, laid together: CelMath, CelSmall, CelPut, CelGet, CelRgx, CelRgv, CelRefGet.
-/
import Derived.Test.YtlkpiapmdflahaaDoorPackPfx
import Derived.Test.YtlkpiapmdflahaaDoorPackHex
import Derived.Test.YtlkpiapmdflahaaDoorPackSpc
import Derived.Test.YtlkpiapmdflahaaDoorPackCls
import Derived.Test.YtlkpiapmdflahaaDoorPackBase
import Derived.Test.YtlkpiapmdflahaaDoorPackBcd

/-
  A field as bytes, over numbers and bytes alone: which bytes a value has, which value stands at a place; put and got undo each other, and what stands ahead and behind plays no part. (No function of the program is walked here.)
-/
namespace Go.Proofs.YtlkpiapmdflahaaDoor

/-- How a value stands: 1 by halves of bytes, 2 by digits of sixteen, 0 as it is. -/
def cway (st : Nat) (c : Int) : Nat := if st = 2 ∧ c = 1 then 1 else if st = 1 ∧ (c = 5 ∨ c = 6) then 2 else 0
/-- How many bytes a value of n bytes takes. -/
def csz (k n : Nat) : Nat := if k = 1 then (n + 1) / 2 else if k = 2 then 2 * n else n
def spellL (k : Nat) (l : List UInt8) : List UInt8 := if k = 1 then packL l else if k = 2 then hputL l else l
/-- The text of n bytes that is spelt by these bytes, an error. -/
def cread (k : Nat) (t : ByteArray) (n : Nat) : ByteArray × Nat :=
  if k = 1 then (⟨(bget t.data.toList n).1.toArray⟩, (bget t.data.toList n).2.1) else if k = 2 then (hgetS t.data.toList, if hgetB t.data.toList = true then 0 else 3) else (t, 0)
/-- A field's bytes. -/
def cputL (st : Nat) (c f : Int) (l : List UInt8) : List UInt8 := (if f = 1 then [] else pputL st f.toNat l.length) ++ spellL (cway st c) l
/-- How many bytes the value has, where it begins, an error. -/
def clen (st : Nat) (f lo hi : Int) (l : List UInt8) (p : Nat) : Nat × Nat × Nat :=
  if f = 1 then (hi.toNat, p, 0) else if (pget st f.toNat l p).2.2 ≠ 0 then (0, 0, (pget st f.toNat l p).2.2) else
  if ((pget st f.toNat l p).1 : Int) < lo ∨ hi < ((pget st f.toNat l p).1 : Int) then (0, 0, 5) else pget st f.toNat l p
/-- The value at a place, the place behind it, an error. -/
def cget (st : Nat) (n c f lo hi : Int) (s : ByteArray) (p : Nat) : ByteArray × Nat × Int :=
  if (clen st f lo hi s.data.toList p).2.2 ≠ 0 then (⟨#[]⟩, 0, ((clen st f lo hi s.data.toList p).2.2 : Int)) else
  if s.size < (clen st f lo hi s.data.toList p).2.1 + csz (cway st c) (clen st f lo hi s.data.toList p).1 then (⟨#[]⟩, 0, 2) else
  if (cread (cway st c) (s.extract (clen st f lo hi s.data.toList p).2.1 ((clen st f lo hi s.data.toList p).2.1 + csz (cway st c) (clen st f lo hi s.data.toList p).1)) (clen st f lo hi s.data.toList p).1).2 ≠ 0 then
    (⟨#[]⟩, 0, ((cread (cway st c) (s.extract (clen st f lo hi s.data.toList p).2.1 ((clen st f lo hi s.data.toList p).2.1 + csz (cway st c) (clen st f lo hi s.data.toList p).1)) (clen st f lo hi s.data.toList p).1).2 : Int)) else
  if spv n c f lo hi (cread (cway st c) (s.extract (clen st f lo hi s.data.toList p).2.1 ((clen st f lo hi s.data.toList p).2.1 + csz (cway st c) (clen st f lo hi s.data.toList p).1)) (clen st f lo hi s.data.toList p).1).1 ≠ 0 then
    (⟨#[]⟩, 0, spv n c f lo hi (cread (cway st c) (s.extract (clen st f lo hi s.data.toList p).2.1 ((clen st f lo hi s.data.toList p).2.1 + csz (cway st c) (clen st f lo hi s.data.toList p).1)) (clen st f lo hi s.data.toList p).1).1) else
  ((cread (cway st c) (s.extract (clen st f lo hi s.data.toList p).2.1 ((clen st f lo hi s.data.toList p).2.1 + csz (cway st c) (clen st f lo hi s.data.toList p).1)) (clen st f lo hi s.data.toList p).1).1, (clen st f lo hi s.data.toList p).2.1 + csz (cway st c) (clen st f lo hi s.data.toList p).1, 0)

theorem cway_le (st : Nat) (c : Int) : cway st c = 0 ∨ cway st c = 1 ∨ cway st c = 2 := by unfold cway; split <;> (try split) <;> simp
theorem cway_one {st : Nat} {c : Int} (h : cway st c = 1) : st = 2 ∧ c = 1 := by
  unfold cway at h
  split at h
  · assumption
  · split at h <;> cases h
theorem cway_two {st : Nat} {c : Int} (h : cway st c = 2) : st = 1 ∧ (c = 5 ∨ c = 6) := by
  unfold cway at h
  split at h
  · cases h
  · split at h
    · assumption
    · cases h
theorem cway_none {st : Nat} {c : Int} (h : cway st c = 0) : ¬ (st = 2 ∧ c = 1) ∧ ¬ (st = 1 ∧ (c = 5 ∨ c = 6)) := by
  unfold cway at h
  split at h
  · cases h
  · split at h
    · cases h
    · exact ⟨by assumption, by assumption⟩
theorem csz_none (n : Nat) : csz 0 n = n := rfl
theorem csz_one (n : Nat) : csz 1 n = (n + 1) / 2 := rfl
theorem csz_two (n : Nat) : csz 2 n = 2 * n := rfl
theorem csz_le (k n : Nat) : csz k n ≤ 2 * n := by unfold csz; split <;> (try split) <;> omega
theorem spellL_length (k : Nat) (l : List UInt8) : (spellL k l).length = csz k l.length := by
  unfold spellL csz
  split
  · exact packL_length l
  · split
    · exact hputL_length l
    · rfl

theorem clen_fixed (st : Nat) (lo hi : Int) (l : List UInt8) (p : Nat) : clen st 1 lo hi l p = (hi.toNat, p, 0) := by unfold clen; rw [if_pos rfl]
theorem clen_err {st : Nat} {f lo hi : Int} {l : List UInt8} {p : Nat} (hf : f ≠ 1) (h : (pget st f.toNat l p).2.2 ≠ 0) : clen st f lo hi l p = (0, 0, (pget st f.toNat l p).2.2) := by unfold clen; rw [if_neg hf, if_pos h]
theorem clen_range {st : Nat} {f lo hi : Int} {l : List UInt8} {p : Nat} (hf : f ≠ 1) (h : (pget st f.toNat l p).2.2 = 0) (h1 : ((pget st f.toNat l p).1 : Int) < lo ∨ hi < ((pget st f.toNat l p).1 : Int)) : clen st f lo hi l p = (0, 0, 5) := by
  unfold clen; rw [if_neg hf, if_neg (by simp [h]), if_pos h1]
theorem clen_ok {st : Nat} {f lo hi : Int} {l : List UInt8} {p : Nat} (hf : f ≠ 1) (h : (pget st f.toNat l p).2.2 = 0) (h1 : ¬ (((pget st f.toNat l p).1 : Int) < lo ∨ hi < ((pget st f.toNat l p).1 : Int))) : clen st f lo hi l p = pget st f.toNat l p := by
  unfold clen; rw [if_neg hf, if_neg (by simp [h]), if_neg h1]

section
variable {st : Nat} {n c f lo hi : Int} {s : ByteArray} {p a q x y : Nat} {t : ByteArray}
theorem cget_len (h : clen st f lo hi s.data.toList p = (a, q, x)) (hx : x ≠ 0) : cget st n c f lo hi s p = (⟨#[]⟩, 0, (x : Int)) := by
  unfold cget; rw [h, if_pos hx]
theorem cget_cut (h : clen st f lo hi s.data.toList p = (a, q, 0)) (h2 : s.size < q + csz (cway st c) a) : cget st n c f lo hi s p = (⟨#[]⟩, 0, 2) := by
  unfold cget; rw [h, if_neg (by simp), if_pos h2]
theorem cget_read (h : clen st f lo hi s.data.toList p = (a, q, 0)) (h2 : q + csz (cway st c) a ≤ s.size) (h3 : cread (cway st c) (s.extract q (q + csz (cway st c) a)) a = (t, y)) (hy : y ≠ 0) : cget st n c f lo hi s p = (⟨#[]⟩, 0, (y : Int)) := by
  unfold cget; rw [h, if_neg (by simp), if_neg (by simp; omega)]; dsimp only; rw [h3, if_pos hy]
theorem cget_val (h : clen st f lo hi s.data.toList p = (a, q, 0)) (h2 : q + csz (cway st c) a ≤ s.size) (h3 : cread (cway st c) (s.extract q (q + csz (cway st c) a)) a = (t, 0)) (h4 : spv n c f lo hi t ≠ 0) : cget st n c f lo hi s p = (⟨#[]⟩, 0, spv n c f lo hi t) := by
  unfold cget; rw [h, if_neg (by simp), if_neg (by simp; omega)]; dsimp only; rw [h3, if_neg (by simp), if_pos h4]
theorem cget_ok (h : clen st f lo hi s.data.toList p = (a, q, 0)) (h2 : q + csz (cway st c) a ≤ s.size) (h3 : cread (cway st c) (s.extract q (q + csz (cway st c) a)) a = (t, 0)) (h4 : spv n c f lo hi t = 0) : cget st n c f lo hi s p = (t, q + csz (cway st c) a, 0) := by
  unfold cget; rw [h, if_neg (by simp), if_neg (by simp; omega)]; dsimp only; rw [h3, if_neg (by simp), if_neg (by simp [h4])]

/-- All ways out. -/
theorem cget_cases (st : Nat) (n c f lo hi : Int) (s : ByteArray) (p : Nat) : ∃ a q x, clen st f lo hi s.data.toList p = (a, q, x) ∧
    (x ≠ 0 ∨ x = 0 ∧ (s.size < q + csz (cway st c) a ∨ q + csz (cway st c) a ≤ s.size ∧ ∃ t y, cread (cway st c) (s.extract q (q + csz (cway st c) a)) a = (t, y) ∧
      (y ≠ 0 ∨ y = 0 ∧ (spv n c f lo hi t ≠ 0 ∨ spv n c f lo hi t = 0)))) := by
  rcases hr : clen st f lo hi s.data.toList p with ⟨a, q, x⟩
  refine ⟨a, q, x, rfl, ?_⟩
  by_cases hx : x = 0
  · refine .inr ⟨hx, ?_⟩
    by_cases h2 : s.size < q + csz (cway st c) a
    · exact .inl h2
    · refine .inr ⟨by omega, ?_⟩
      rcases ht : cread (cway st c) (s.extract q (q + csz (cway st c) a)) a with ⟨t, y⟩
      refine ⟨t, y, rfl, ?_⟩
      by_cases hy : y = 0
      · exact .inr ⟨hy, (Decidable.em _).symm⟩
      · exact .inl hy
  · exact .inl hx
theorem cget_zero (h : (cget st n c f lo hi s p).2.2 = 0) : ∃ a q t, clen st f lo hi s.data.toList p = (a, q, 0) ∧ q + csz (cway st c) a ≤ s.size ∧ cread (cway st c) (s.extract q (q + csz (cway st c) a)) a = (t, 0) ∧ spv n c f lo hi t = 0 ∧ cget st n c f lo hi s p = (t, q + csz (cway st c) a, 0) := by
  obtain ⟨a, q, x, h1, hx | ⟨rfl, h2 | ⟨h2, t, y, h3, hy | ⟨rfl, h4 | h4⟩⟩⟩⟩ := cget_cases st n c f lo hi s p
  · rw [cget_len h1 hx] at h
    exact absurd h (by simpa using hx)
  · rw [cget_cut h1 h2] at h
    cases h
  · rw [cget_read h1 h2 h3 hy] at h
    exact absurd h (by simpa using hy)
  · rw [cget_val h1 h2 h3 h4] at h
    exact absurd h h4
  · exact ⟨a, q, t, h1, h2, h3, h4, cget_ok h1 h2 h3 h4⟩
theorem cget_err (h : (cget st n c f lo hi s p).2.2 ≠ 0) : (cget st n c f lo hi s p).1 = ⟨#[]⟩ ∧ (cget st n c f lo hi s p).2.1 = 0 := by
  obtain ⟨a, q, x, h1, hx | ⟨rfl, h2 | ⟨h2, t, y, h3, hy | ⟨rfl, h4 | h4⟩⟩⟩⟩ := cget_cases st n c f lo hi s p
  · rw [cget_len h1 hx]; exact ⟨rfl, rfl⟩
  · rw [cget_cut h1 h2]; exact ⟨rfl, rfl⟩
  · rw [cget_read h1 h2 h3 hy]; exact ⟨rfl, rfl⟩
  · rw [cget_val h1 h2 h3 h4]; exact ⟨rfl, rfl⟩
  · rw [cget_ok h1 h2 h3 h4] at h
    exact absurd rfl h
end

/-! What stands ahead and behind. -/
theorem pget_shift (st f : Nat) (a l : List UInt8) (p : Nat) : pget st f (a ++ l) (a.length + p) = if (pget st f l p).2.2 = 0 then ((pget st f l p).1, a.length + (pget st f l p).2.1, 0) else pget st f l p := by
  have hd : (a ++ l).drop (a.length + p) = l.drop p := by rw [List.drop_append, List.drop_eq_nil_of_le (by omega), Nat.add_sub_cancel_left, List.nil_append]
  by_cases h : l.length < p + psz st f
  · rw [pget_cut h, pget_cut (by rw [List.length_append]; omega)]; rfl
  · cases hn : pnum st f ((l.drop p).take (psz st f)) with
    | none => rw [pget_form (by omega) hn, pget_form (by rw [List.length_append]; omega) (by rw [hd]; exact hn)]; rfl
    | some m => rw [pget_ok (by omega) hn, pget_ok (by rw [List.length_append]; omega) (by rw [hd]; exact hn), if_pos rfl, Nat.add_assoc]
theorem pget_more {st f : Nat} {l : List UInt8} {p : Nat} (m : List UInt8) (h : (pget st f l p).2.2 = 0) : pget st f (l ++ m) p = pget st f l p := by
  obtain ⟨h1, _, h3⟩ := pget_zero h
  rw [pget_ok h1 h3, pget_ok (by rw [List.length_append]; omega) (by
    rw [List.drop_append_of_le_length (by omega), List.take_append_of_le_length (by rw [List.length_drop]; omega)]; exact h3)]
theorem clen_shift (st : Nat) (f lo hi : Int) (a l : List UInt8) (p : Nat) : clen st f lo hi (a ++ l) (a.length + p) = if (clen st f lo hi l p).2.2 = 0 then ((clen st f lo hi l p).1, a.length + (clen st f lo hi l p).2.1, 0) else clen st f lo hi l p := by
  by_cases hf : f = 1
  · subst hf; rw [clen_fixed, clen_fixed, if_pos rfl]
  · have hs := pget_shift st f.toNat a l p
    by_cases h : (pget st f.toNat l p).2.2 = 0
    · rw [if_pos h] at hs
      by_cases h1 : ((pget st f.toNat l p).1 : Int) < lo ∨ hi < ((pget st f.toNat l p).1 : Int)
      · rw [clen_range hf h h1, clen_range hf (by rw [hs]) (by rw [hs]; exact h1)]; rfl
      · rw [clen_ok hf h h1, clen_ok hf (by rw [hs]) (by rw [hs]; exact h1), if_pos h, hs]
    · rw [if_neg h] at hs
      rw [clen_err hf h, clen_err hf (by rw [hs]; exact h), hs]
      dsimp only
      rw [if_neg h]
theorem clen_more {st : Nat} {f lo hi : Int} {l : List UInt8} {p : Nat} (m : List UInt8) (h : (clen st f lo hi l p).2.2 = 0) : clen st f lo hi (l ++ m) p = clen st f lo hi l p := by
  by_cases hf : f = 1
  · subst hf; rw [clen_fixed, clen_fixed]
  · by_cases h0 : (pget st f.toNat l p).2.2 = 0
    · have hs := pget_more m h0
      by_cases h1 : ((pget st f.toNat l p).1 : Int) < lo ∨ hi < ((pget st f.toNat l p).1 : Int)
      · rw [clen_range hf h0 h1, clen_range hf (by rw [hs]; exact h0) (by rw [hs]; exact h1)]
      · rw [clen_ok hf h0 h1, clen_ok hf (by rw [hs]; exact h0) (by rw [hs]; exact h1), hs]
    · rw [clen_err hf h0] at h
      exact absurd h h0
theorem ext_eq {x y : ByteArray} (h : x.data.toList = y.data.toList) : x = y := by rw [ByteArray.ext_iff]; exact Array.toList_inj.1 h
theorem app_list (x y : ByteArray) : (x ++ y).data.toList = x.data.toList ++ y.data.toList := by simp
theorem list_size (x : ByteArray) : x.data.toList.length = x.size := by simp
theorem extract_shift (A s : ByteArray) (q z : Nat) : (A ++ s).extract (A.size + q) (A.size + q + z) = s.extract q (q + z) := by
  apply ext_eq
  rw [piece_list, piece_list, app_list, List.drop_append, List.drop_eq_nil_of_le (by rw [list_size]; omega), list_size, Nat.add_sub_cancel_left, List.nil_append]
theorem extract_more (s M : ByteArray) (q z : Nat) (h : q + z ≤ s.size) : (s ++ M).extract q (q + z) = s.extract q (q + z) := by
  apply ext_eq
  rw [piece_list, piece_list, app_list, List.drop_append_of_le_length (by rw [list_size]; omega), List.take_append_of_le_length (by rw [List.length_drop, list_size]; omega)]
theorem cget_shift (st : Nat) (n c f lo hi : Int) (A s : ByteArray) (p : Nat) : cget st n c f lo hi (A ++ s) (A.size + p) = if (cget st n c f lo hi s p).2.2 = 0 then ((cget st n c f lo hi s p).1, A.size + (cget st n c f lo hi s p).2.1, 0) else cget st n c f lo hi s p := by
  have hs := clen_shift st f lo hi A.data.toList s.data.toList p
  rw [list_size, ← app_list] at hs
  obtain ⟨a, q, x, h1, hx | ⟨rfl, h2 | ⟨h2, t, y, h3, hy | ⟨rfl, h4 | h4⟩⟩⟩⟩ := cget_cases st n c f lo hi s p
  · rw [h1] at hs
    dsimp only at hs
    rw [if_neg hx] at hs
    rw [cget_len h1 hx, cget_len hs hx, if_neg (by simpa using hx)]
  · rw [h1] at hs
    dsimp only at hs
    rw [if_pos rfl] at hs
    rw [cget_cut h1 h2, cget_cut hs (by rw [ByteArray.size_append]; omega)]; rfl
  all_goals
    rw [h1] at hs
    dsimp only at hs
    rw [if_pos rfl] at hs
    have h2' : A.size + q + csz (cway st c) a ≤ (A ++ s).size := by rw [ByteArray.size_append]; omega
    rw [← extract_shift A s q] at h3
  · rw [cget_read h1 h2 (by rw [← extract_shift A s q]; exact h3) hy, cget_read hs h2' h3 hy, if_neg (by simpa using hy)]
  · rw [cget_val h1 h2 (by rw [← extract_shift A s q]; exact h3) h4, cget_val hs h2' h3 h4, if_neg h4]
  · rw [cget_ok h1 h2 (by rw [← extract_shift A s q]; exact h3) h4, cget_ok hs h2' h3 h4, if_pos rfl, Nat.add_assoc]
theorem cget_more {st : Nat} {n c f lo hi : Int} {s : ByteArray} {p : Nat} (M : ByteArray) (h : (cget st n c f lo hi s p).2.2 = 0) : cget st n c f lo hi (s ++ M) p = cget st n c f lo hi s p := by
  obtain ⟨a, q, t, h1, h2, h3, h4, h5⟩ := cget_zero h
  have hs := clen_more (st := st) (f := f) (lo := lo) (hi := hi) (p := p) (l := s.data.toList) M.data.toList (by rw [h1])
  rw [← app_list, h1] at hs
  rw [h5, cget_ok hs (by rw [ByteArray.size_append]; omega) (by rw [extract_more _ _ _ _ h2]; exact h3) h4]

/-! Put and got. -/
theorem fst_digits {l : List UInt8} (h : ¬ 0 ≤ fst 1 l) : allD l = true := by
  rcases fst_cases 1 l with ⟨_, g⟩ | ⟨k, _, g, _⟩
  · unfold allD
    rw [List.all_eq_true] at g ⊢
    intro c hc
    have := g c hc
    rw [isO_1] at this
    rw [isD_iff]
    simpa using this
  · omega
theorem spk_more {n c f lo hi : Int} (h : spk n c f lo hi = 0) : (f = 1 ∨ f = 2 ∨ f = 3) ∧ lenB f lo hi = true := by
  unfold spk at h
  split at h
  · omega
  split at h
  · omega
  split at h
  · omega
  rename_i h1
  split at h
  · omega
  rename_i h2
  exact ⟨by omega, by simpa using h2⟩
theorem spk_fixed {n c lo hi : Int} (h : spk n c 1 lo hi = 0) : lo = hi := by
  have h1 := (spk_more h).2
  rw [lenB_one (lenB_in h1)] at h1
  simpa using h1
theorem spk_most {n c f lo hi : Int} (h : spk n c f lo hi = 0) (hf : f ≠ 1) (m : Nat) (hm : (m : Int) ≤ hi) : (f.toNat = 2 ∨ f.toNat = 3) ∧ m < 10 ^ f.toNat := by
  obtain ⟨g1, g2⟩ := spk_more h
  have g3 := lenB_in g2
  rcases g1 with rfl | rfl | rfl
  · exact absurd rfl hf
  · rw [lenB_two g3] at g2
    have g4 : hi ≤ 99 := by simpa using g2
    refine ⟨.inl rfl, ?_⟩
    show m < 100
    omega
  · refine ⟨.inr rfl, ?_⟩
    show m < 1000
    omega

theorem cread_back {k : Nat} {l : List UInt8} (h : k = 1 → allD l = true ∧ l.length ≤ 999) : cread k ⟨(spellL k l).toArray⟩ l.length = (⟨l.toArray⟩, 0) := by
  unfold cread spellL
  split
  · rename_i hk
    obtain ⟨h1, h2⟩ := h hk
    have e := bget_packL h1 h2 []
    rw [List.append_nil] at e
    rw [mk_list, e]
  · split
    · rw [mk_list, hgetS_yes (hgetB_hputL l), hgetL_hputL, hgetB_hputL, if_pos rfl]
    · rfl
theorem cread_spell {k n : Nat} {t x : ByteArray} (hx : x.size = csz k n) (h : cread k x n = (t, 0)) : t.size = n ∧ spellL k t.data.toList = x.data.toList := by
  unfold cread at h
  unfold csz at hx
  unfold spellL
  have hl := list_size x
  split at h
  · rename_i hk
    rw [if_pos hk] at hx ⊢
    obtain ⟨h1, h2⟩ := Prod.mk.inj h
    obtain ⟨m, hm, hm1, g0, g1, g2⟩ := bget_zero h2
    obtain rfl : n = m := by omega
    rw [bget_ok hm1 g0 g1 g2] at h1
    subst h1
    rw [mk_size, mk_list, bgetL_length]
    exact ⟨rfl, by rw [packL_bgetL g0 g1, List.take_of_length_le (by omega)]⟩
  · rename_i hk
    rw [if_neg hk] at hx ⊢
    split at h
    · rename_i hk
      rw [if_pos hk] at hx ⊢
      obtain ⟨h1, h2⟩ := Prod.mk.inj h
      have hB : hgetB x.data.toList = true := by
        cases e : hgetB x.data.toList
        · rw [e] at h2; cases h2
        · rfl
      obtain ⟨g1, g2⟩ := hgetB_iff hB
      rw [hgetS_yes hB] at h1
      subst h1
      rw [mk_size, mk_list, hgetL_length]
      exact ⟨by rw [hl, hx]; omega, hputL_hgetL _ g1 g2⟩
    · rename_i hk
      rw [if_neg hk] at hx ⊢
      obtain ⟨h1, _⟩ := Prod.mk.inj h
      subst h1
      exact ⟨hx, rfl⟩

/-- A value that is put is got. -/
theorem cget_back {st : Nat} {n c f lo hi : Int} {s : ByteArray} (h : spv n c f lo hi s = 0) : cget st n c f lo hi ⟨(cputL st c f s.data.toList).toArray⟩ 0 = (s, (cputL st c f s.data.toList).length, 0) := by
  obtain ⟨g1, g2, g3, g4⟩ := spv_in h
  obtain ⟨_, k1, k2, k3⟩ := spk_in g1
  have hl := list_size s
  have hlen : ∃ q, clen st f lo hi (cputL st c f s.data.toList) 0 = (s.size, q, 0) ∧ (cputL st c f s.data.toList).length = q + csz (cway st c) s.size ∧ (cputL st c f s.data.toList).drop q = spellL (cway st c) s.data.toList := by
    by_cases hf : f = 1
    · subst hf
      have e := spk_fixed g1
      refine ⟨0, ?_, ?_, ?_⟩
      · rw [clen_fixed, show hi.toNat = s.size by omega]
      · unfold cputL
        rw [if_pos rfl, List.nil_append, spellL_length, hl, Nat.zero_add]
      · unfold cputL
        rw [if_pos rfl, List.nil_append, List.drop_zero]
    · obtain ⟨f1, f2⟩ := spk_most g1 hf s.size (by omega)
      have e := pget_back (st := st) [] (spellL (cway st c) s.data.toList) f1 f2
      rw [List.nil_append, List.length_nil, Nat.zero_add] at e
      have e0 : cputL st c f s.data.toList = pputL st f.toNat s.size ++ spellL (cway st c) s.data.toList := by
        unfold cputL
        rw [if_neg hf, hl]
      have e1 := pputL_length (st := st) s.size f1
      rw [e0]
      refine ⟨psz st f.toNat, ?_, ?_, ?_⟩
      · rw [clen_ok hf (by rw [e]) (by rw [e]; exact g2), e]
      · rw [List.length_append, e1, spellL_length, hl]
      · rw [← e1, List.drop_left]
  obtain ⟨q, h1, h2, h3⟩ := hlen
  have hp : (⟨(cputL st c f s.data.toList).toArray⟩ : ByteArray).extract q (q + csz (cway st c) s.size) = ⟨(spellL (cway st c) s.data.toList).toArray⟩ := by
    apply ext_eq
    rw [piece_list, mk_list, mk_list, h3, List.take_of_length_le (by rw [spellL_length, hl]; omega)]
  have hr : cread (cway st c) ⟨(spellL (cway st c) s.data.toList).toArray⟩ s.size = (s, 0) := by
    have e := cread_back (k := cway st c) (l := s.data.toList) (fun hk => by
      obtain ⟨_, rfl⟩ := cway_one hk
      exact ⟨fst_digits g3, by omega⟩)
    rw [hl] at e
    rw [e]
  rw [cget_ok (by rw [mk_list]; exact h1) (by have e := mk_size (cputL st c f s.data.toList); rw [e, h2]; exact Nat.le_refl _) (by rw [hp]; exact hr) h, h2]
/-- Bytes that are got are put as they were. -/
theorem cget_one {st : Nat} {n c f lo hi : Int} {s t : ByteArray} {q : Nat} (hk : spk n c f lo hi = 0) (h : cget st n c f lo hi s 0 = (t, q, 0)) : spv n c f lo hi t = 0 ∧ q ≤ s.size ∧ cputL st c f t.data.toList = s.data.toList.take q := by
  obtain ⟨a, b, t', h1, h2, h3, h4, h5⟩ := cget_zero (by rw [h])
  rw [h] at h5
  obtain ⟨i1, i2⟩ := Prod.mk.inj h5
  obtain ⟨i3, _⟩ := Prod.mk.inj i2
  subst i1
  subst i3
  clear h5 i2
  refine ⟨h4, h2, ?_⟩
  have hxs : (s.extract b (b + csz (cway st c) a)).size = csz (cway st c) a := by simp; omega
  obtain ⟨e1, e2⟩ := cread_spell hxs h3
  have hl := list_size s
  have hlt := list_size t
  rw [piece_list] at e2
  unfold cputL
  rw [e2, hlt, e1]
  by_cases hf : f = 1
  · subst hf
    rw [clen_fixed] at h1
    obtain ⟨_, h6⟩ := Prod.mk.inj h1
    obtain ⟨rfl, _⟩ := Prod.mk.inj h6
    rw [if_pos rfl, List.nil_append, List.drop_zero, Nat.zero_add]
  · rw [if_neg hf]
    have hp : (pget st f.toNat s.data.toList 0).2.2 = 0 := by
      apply Classical.byContradiction
      intro hn
      rw [clen_err hf hn] at h1
      have h6 := (Prod.mk.inj (Prod.mk.inj h1).2).2
      exact hn h6
    have hr : ¬ (((pget st f.toNat s.data.toList 0).1 : Int) < lo ∨ hi < ((pget st f.toNat s.data.toList 0).1 : Int)) := by
      intro hn
      rw [clen_range hf hp hn] at h1
      cases h1
    rw [clen_ok hf hp hr] at h1
    obtain ⟨f1, _⟩ := spk_most hk hf (pget st f.toNat s.data.toList 0).1 (by omega)
    obtain ⟨_, g2, g3, g4⟩ := pget_one f1 hp
    rw [h1] at g2 g4
    dsimp only at g2 g4
    rw [g4, ← g2, ← List.take_add]
theorem cputL_length_le {st : Nat} {c f : Int} {l : List UInt8} (hf : f = 1 ∨ f = 2 ∨ f = 3) : (cputL st c f l).length ≤ 3 + 2 * l.length := by
  unfold cputL
  rw [List.length_append, spellL_length]
  have := csz_le (cway st c) l.length
  rcases hf with rfl | rfl | rfl
  · rw [if_pos rfl, List.length_nil]; omega
  · have e := pputL_length (st := st) (f := 2) l.length (.inl rfl)
    have := (psz_le (st := st) (f := 2) (.inl rfl)).2
    rw [if_neg (by decide), show (2 : Int).toNat = 2 from rfl]
    omega
  · have e := pputL_length (st := st) (f := 3) l.length (.inr rfl)
    have := (psz_le (st := st) (f := 3) (.inr rfl)).2
    rw [if_neg (by decide), show (3 : Int).toNat = 3 from rfl]
    omega

end Go.Proofs.YtlkpiapmdflahaaDoor

/-
  What known, packed, sixteen, size, spell, read and length answer, in every world.
-/
namespace Go.Proofs.YtlkpiapmdflahaaDoor
open Go.RowKit

theorem cknown_yes (st : Int) (h : st = 1 ∨ st = 2) (w : World) : Calls Tryd.prog 76 #[.int .i64 st] w fun e w' => e = .returned (.bool true) ∧ w = w' := by
  rcases h with rfl | rfl
  · go_enter Tryd.func76, Tryd.ntmps76
    go_wp2
    go_ret
    exact ⟨rfl, rfl⟩
  · go_enter Tryd.func76, Tryd.ntmps76
    go_wp2
    go_ret
    exact ⟨rfl, rfl⟩
theorem cknown_no (st : Int) (h : st ≠ 1 ∧ st ≠ 2) (w : World) : Calls Tryd.prog 76 #[.int .i64 st] w fun e w' => e = .returned (.bool false) ∧ w = w' := by
  have h1 : (st == 1) = false := by simpa using h.1
  have h2 : (st == 2) = false := by simpa using h.2
  clear h
  go_enter Tryd.func76, Tryd.ntmps76
  go_wp2
  go_ret
  exact ⟨rfl, rfl⟩

theorem cpacked_yes {st : Nat} {c : Int} (h : cway st c = 1) (w : World) : Calls Tryd.prog 100 #[.int .i64 (st : Int), .int .i64 c] w fun e w' => e = .returned (.bool true) ∧ w = w' := by
  obtain ⟨rfl, rfl⟩ := cway_one h
  show Calls Tryd.prog 100 #[.int .i64 2, .int .i64 1] w _
  clear h
  go_enter Tryd.func100, Tryd.ntmps100
  go_wp2
  go_ret
  exact ⟨rfl, rfl⟩
theorem cpacked_no {st : Nat} {c : Int} (hst : st = 1 ∨ st = 2) (h : cway st c ≠ 1) (w : World) : Calls Tryd.prog 100 #[.int .i64 (st : Int), .int .i64 c] w fun e w' => e = .returned (.bool false) ∧ w = w' := by
  rcases hst with rfl | rfl
  · show Calls Tryd.prog 100 #[.int .i64 1, .int .i64 c] w _
    clear h
    go_enter Tryd.func100, Tryd.ntmps100
    go_wp2
    go_ret
    exact ⟨rfl, rfl⟩
  · show Calls Tryd.prog 100 #[.int .i64 2, .int .i64 c] w _
    have h1 : (c == 1) = false := by
      apply Bool.eq_false_iff.2
      intro g
      have g1 : c = 1 := by simpa using g
      subst g1
      exact h rfl
    clear h
    go_enter Tryd.func100, Tryd.ntmps100
    go_wp2
    go_ret
    exact ⟨rfl, rfl⟩
theorem csixteen_yes {st : Nat} {c : Int} (h : cway st c = 2) (w : World) : Calls Tryd.prog 101 #[.int .i64 (st : Int), .int .i64 c] w fun e w' => e = .returned (.bool true) ∧ w = w' := by
  obtain ⟨rfl, hc⟩ := cway_two h
  clear h
  rcases hc with rfl | rfl
  · show Calls Tryd.prog 101 #[.int .i64 1, .int .i64 5] w _
    go_enter Tryd.func101, Tryd.ntmps101
    go_wp2
    go_ret
    exact ⟨rfl, rfl⟩
  · show Calls Tryd.prog 101 #[.int .i64 1, .int .i64 6] w _
    go_enter Tryd.func101, Tryd.ntmps101
    go_wp2
    go_ret
    exact ⟨rfl, rfl⟩
theorem csixteen_no {st : Nat} {c : Int} (hst : st = 1 ∨ st = 2) (h : cway st c = 0) (w : World) : Calls Tryd.prog 101 #[.int .i64 (st : Int), .int .i64 c] w fun e w' => e = .returned (.bool false) ∧ w = w' := by
  have hn := (cway_none h).2
  clear h
  rcases hst with rfl | rfl
  · show Calls Tryd.prog 101 #[.int .i64 1, .int .i64 c] w _
    have h5 : (c == 5) = false := by simp; omega
    have h6 : (c == 6) = false := by simp; omega
    clear hn
    go_enter Tryd.func101, Tryd.ntmps101
    go_wp2
    go_ret
    exact ⟨rfl, rfl⟩
  · show Calls Tryd.prog 101 #[.int .i64 2, .int .i64 c] w _
    clear hn
    go_enter Tryd.func101, Tryd.ntmps101
    go_wp2
    go_ret
    exact ⟨rfl, rfl⟩

theorem csize_any (st n : Nat) (c : Int) (w : World) (hst : st = 1 ∨ st = 2) (hn : n ≤ 1000000) :
    Calls Tryd.prog 78 #[.int .i64 (st : Int), .int .i64 c, .int .i64 (n : Int)] w fun e w' => e = .returned (.int .i64 (csz (cway st c) n : Int)) ∧ w = w' := by
  rcases cway_le st c with h | h | h
  · have HP := Lib.hid (cpacked_no (c := c) hst (by omega))
    have HS := Lib.hid (csixteen_no hst h)
    rw [h, csz_none]
    clear h hst
    go_enter Tryd.func78, Tryd.ntmps78
    go_wp2_with fail
    refine (HP.out _).mono ?_
    rintro e w1 ⟨rfl, rfl⟩
    go_wp2_with fail
    refine (HS.out _).mono ?_
    rintro e w1 ⟨rfl, rfl⟩
    go_wp2
    go_ret
    exact ⟨rfl, rfl⟩
  · have HP := Lib.hid (cpacked_yes h)
    have HZ := Lib.hid (fun W => size_nat n W (by omega))
    rw [h, csz_one]
    clear h hst
    generalize (n + 1) / 2 = z at *
    go_enter Tryd.func78, Tryd.ntmps78
    go_wp2_with fail
    refine (HP.out _).mono ?_
    rintro e w1 ⟨rfl, rfl⟩
    go_wp2_with fail
    refine (HZ.out _).mono ?_
    rintro e w1 ⟨rfl, rfl⟩
    go_wp2
    go_ret
    exact ⟨rfl, rfl⟩
  · have HP := Lib.hid (cpacked_no (c := c) hst (by omega))
    have HS := Lib.hid (csixteen_yes h)
    rw [h, csz_two]
    clear h hst
    go_enter Tryd.func78, Tryd.ntmps78
    go_wp2_with fail
    refine (HP.out _).mono ?_
    rintro e w1 ⟨rfl, rfl⟩
    go_wp2_with fail
    refine (HS.out _).mono ?_
    rintro e w1 ⟨rfl, rfl⟩
    go_wp2
    go_ret
    exact ⟨by simp, rfl⟩

theorem mk_self (s : ByteArray) : (⟨s.data.toList.toArray⟩ : ByteArray) = s := rfl

theorem cspell_any (st : Nat) (c : Int) (s : ByteArray) (w : World) (hst : st = 1 ∨ st = 2) (hs : s.size ≤ 999) (hd : cway st c = 1 → allD s.data.toList = true) :
    Calls Tryd.prog 90 #[.int .i64 (st : Int), .int .i64 c, .string s] w fun e w' => e = .returned (.string ⟨(spellL (cway st c) s.data.toList).toArray⟩) ∧ Below w.heap.size w w' := by
  rcases cway_le st c with h | h | h
  · have HP := Lib.hid (cpacked_no (c := c) hst (by omega))
    have HS := Lib.hid (csixteen_no hst h)
    rw [h, show (⟨(spellL 0 s.data.toList).toArray⟩ : ByteArray) = s from rfl]
    clear h hst hd
    go_enter Tryd.func90, Tryd.ntmps90
    go_wp2_with fail
    refine (HP.out _).mono ?_
    rintro e w1 ⟨rfl, rfl⟩
    go_wp2_with fail
    refine (HS.out _).mono ?_
    rintro e w1 ⟨rfl, rfl⟩
    go_wp2
    go_ret
    exact ⟨rfl, Below.refl _ _⟩
  · have HP := Lib.hid (cpacked_yes h)
    have hy : bputB s.data.toList = true := bputB_yes (by rw [list_size]; exact hs) (hd h)
    have HZ := Lib.hid (fun W => bput_any s W (by unfold maxLen; omega))
    rw [hy, bputS_yes hy] at HZ
    rw [h, show spellL 1 s.data.toList = packL s.data.toList from rfl]
    clear h hst hd hy
    generalize (⟨(packL s.data.toList).toArray⟩ : ByteArray) = x at *
    go_enter Tryd.func90, Tryd.ntmps90
    go_wp2_with fail
    refine (HP.out _).mono ?_
    rintro e w1 ⟨rfl, rfl⟩
    go_wp2_with fail
    refine (HZ.out _).mono ?_
    rintro e w1 ⟨rfl, hb1⟩
    go_wp2
    go_ret
    exact ⟨rfl, hb1⟩
  · have HP := Lib.hid (cpacked_no (c := c) hst (by omega))
    have HS := Lib.hid (csixteen_yes h)
    have HZ := Lib.hid (fun W => hput_any s W (by omega))
    rw [h, show spellL 2 s.data.toList = hputL s.data.toList from rfl]
    clear h hst hd
    generalize (⟨(hputL s.data.toList).toArray⟩ : ByteArray) = x at *
    go_enter Tryd.func90, Tryd.ntmps90
    go_wp2_with fail
    refine (HP.out _).mono ?_
    rintro e w1 ⟨rfl, rfl⟩
    go_wp2_with fail
    refine (HS.out _).mono ?_
    rintro e w1 ⟨rfl, rfl⟩
    go_wp2_with fail
    refine (HZ.out _).mono ?_
    rintro e w1 ⟨rfl, hb1⟩
    go_wp2
    go_ret
    exact ⟨rfl, hb1⟩

theorem cread_any (st n : Nat) (c : Int) (s : ByteArray) (w : World) (hst : st = 1 ∨ st = 2) (hs : s.size ≤ 1000000) :
    Calls Tryd.prog 79 #[.int .i64 (st : Int), .int .i64 c, .string s, .int .i64 (n : Int)] w fun e w' => e = .returned (.tuple #[.string (cread (cway st c) s n).1, .int .i64 ((cread (cway st c) s n).2 : Int)]) ∧ Below w.heap.size w w' := by
  rcases cway_le st c with h | h | h
  · have HP := Lib.hid (cpacked_no (c := c) hst (by omega))
    have HS := Lib.hid (csixteen_no hst h)
    rw [h]
    show Calls _ _ _ _ fun e w' => e = .returned (.tuple #[.string s, .int .i64 0]) ∧ _
    clear h hst
    go_enter Tryd.func79, Tryd.ntmps79
    go_wp2_with fail
    refine (HP.out _).mono ?_
    rintro e w1 ⟨rfl, rfl⟩
    go_wp2_with fail
    refine (HS.out _).mono ?_
    rintro e w1 ⟨rfl, rfl⟩
    go_wp2
    go_ret2
    exact ⟨rfl, Below.refl _ _⟩
  · have HP := Lib.hid (cpacked_yes h)
    have HZ := Lib.hid (fun W => bget_any s (n : Int) W)
    unfold bgetV at HZ
    rw [h]
    show Calls _ _ _ _ fun e w' => e = .returned (.tuple #[.string ⟨(bget s.data.toList n).1.toArray⟩, .int .i64 ((bget s.data.toList n).2.1 : Int)]) ∧ _
    generalize (⟨(bget s.data.toList n).1.toArray⟩ : ByteArray) = x at *
    generalize (bget s.data.toList n).2.1 = y at *
    generalize (bget s.data.toList n).2.2 = z at *
    clear h hst
    go_enter Tryd.func79, Tryd.ntmps79
    go_wp2_with fail
    refine (HP.out _).mono ?_
    rintro e w1 ⟨rfl, rfl⟩
    go_wp2_with fail
    refine (HZ.out _).mono ?_
    rintro e w1 ⟨rfl, hb1⟩
    go_wp2
    go_ret2
    exact ⟨rfl, hb1⟩
  · have HP := Lib.hid (cpacked_no (c := c) hst (by omega))
    have HS := Lib.hid (csixteen_yes h)
    have HZ := Lib.hid (fun W => hget_any s W (by omega))
    rw [h]
    show Calls _ _ _ _ fun e w' => e = .returned (.tuple #[.string (hgetS s.data.toList), .int .i64 ((if hgetB s.data.toList = true then 0 else 3 : Nat) : Int)]) ∧ _
    generalize hgetI s.data.toList = y at *
    cases hB : hgetB s.data.toList
    · rw [hB, hgetS_no hB] at HZ
      rw [hgetS_no hB]
      show Calls _ _ _ _ fun e w' => e = .returned (.tuple #[.string ⟨#[]⟩, .int .i64 3]) ∧ _
      clear h hst hB
      go_enter Tryd.func79, Tryd.ntmps79
      go_wp2_with fail
      refine (HP.out _).mono ?_
      rintro e w1 ⟨rfl, rfl⟩
      go_wp2_with fail
      refine (HS.out _).mono ?_
      rintro e w1 ⟨rfl, rfl⟩
      go_wp2_with fail
      refine (HZ.out _).mono ?_
      rintro e w1 ⟨rfl, hb1⟩
      go_wp2
      go_ret2
      exact ⟨rfl, hb1⟩
    · rw [hB] at HZ
      show Calls _ _ _ _ fun e w' => e = .returned (.tuple #[.string (hgetS s.data.toList), .int .i64 0]) ∧ _
      generalize hgetS s.data.toList = x at *
      clear h hst hB
      go_enter Tryd.func79, Tryd.ntmps79
      go_wp2_with fail
      refine (HP.out _).mono ?_
      rintro e w1 ⟨rfl, rfl⟩
      go_wp2_with fail
      refine (HS.out _).mono ?_
      rintro e w1 ⟨rfl, rfl⟩
      go_wp2_with fail
      refine (HZ.out _).mono ?_
      rintro e w1 ⟨rfl, hb1⟩
      go_wp2
      go_ret2
      exact ⟨rfl, hb1⟩

set_option maxRecDepth 100000 in
set_option maxHeartbeats 800000 in
theorem clength_fixed (st n c lo hi p : Int) (s : ByteArray) (w : World) :
    Calls Tryd.prog 77 #[.int .i64 st, .agg #[.int .i64 n, .int .i64 c, .int .i64 1, .int .i64 lo, .int .i64 hi], .string s, .int .i64 p] w fun e w' => e = .returned (.tuple #[.int .i64 hi, .int .i64 p, .int .i64 0]) ∧ Below w.heap.size w w' := by
  go_enter Tryd.func77, Tryd.ntmps77
  go_wp2
  go_ret3
  exact ⟨rfl, below_al _ _⟩
set_option maxRecDepth 100000 in
set_option maxHeartbeats 800000 in
theorem clength_err (st n c f lo hi p k a q : Int) (s : ByteArray) (w : World) (hf : (f == 1) = false) (hk : (k != 0) = true)
    (hg : ∀ W, Calls Tryd.prog 99 #[.int .i64 st, .int .i64 f, .string s, .int .i64 p] W fun e w' => e = .returned (.tuple #[.int .i64 a, .int .i64 q, .int .i64 k]) ∧ Below W.heap.size W w') :
    Calls Tryd.prog 77 #[.int .i64 st, .agg #[.int .i64 n, .int .i64 c, .int .i64 f, .int .i64 lo, .int .i64 hi], .string s, .int .i64 p] w fun e w' => e = .returned (.tuple #[.int .i64 0, .int .i64 0, .int .i64 k]) ∧ Below w.heap.size w w' := by
  have HG := Lib.hid hg
  clear hg
  go_enter Tryd.func77, Tryd.ntmps77
  go_wp2_with fail
  refine (HG.out _).mono ?_
  rintro e w1 ⟨rfl, hb1⟩
  have HB1 := Lib.hid (hbt (below_al _ _) hb1)
  clear hb1
  go_wp2
  go_ret3
  exact ⟨rfl, HB1.out⟩
set_option maxRecDepth 100000 in
set_option maxHeartbeats 800000 in
theorem clength_range (st n c f lo hi p a q : Int) (s : ByteArray) (w : World) (hf : (f == 1) = false) (h : a < lo ∨ hi < a)
    (hg : ∀ W, Calls Tryd.prog 99 #[.int .i64 st, .int .i64 f, .string s, .int .i64 p] W fun e w' => e = .returned (.tuple #[.int .i64 a, .int .i64 q, .int .i64 0]) ∧ Below W.heap.size W w') :
    Calls Tryd.prog 77 #[.int .i64 st, .agg #[.int .i64 n, .int .i64 c, .int .i64 f, .int .i64 lo, .int .i64 hi], .string s, .int .i64 p] w fun e w' => e = .returned (.tuple #[.int .i64 0, .int .i64 0, .int .i64 5]) ∧ Below w.heap.size w w' := by
  have HG := Lib.hid hg
  clear hg
  by_cases h1 : a < lo
  · have t1 : decide (a < lo) = true := by simpa using h1
    clear h h1
    go_enter Tryd.func77, Tryd.ntmps77
    go_wp2_with fail
    refine (HG.out _).mono ?_
    rintro e w1 ⟨rfl, hb1⟩
    have HB1 := Lib.hid (hbt (below_al _ _) hb1)
    obtain ⟨c0, c1, c2, c3, c4⟩ := obj_cells5 (spec_at hb1)
    clear hb1
    go_wp2
    go_ret3
    exact ⟨rfl, HB1.out⟩
  · have t1 : decide (a < lo) = false := by simpa using h1
    have t2 : decide (hi < a) = true := by simp; omega
    clear h h1
    go_enter Tryd.func77, Tryd.ntmps77
    go_wp2_with fail
    refine (HG.out _).mono ?_
    rintro e w1 ⟨rfl, hb1⟩
    have HB1 := Lib.hid (hbt (below_al _ _) hb1)
    obtain ⟨c0, c1, c2, c3, c4⟩ := obj_cells5 (spec_at hb1)
    clear hb1
    go_wp2
    go_ret3
    exact ⟨rfl, HB1.out⟩
set_option maxRecDepth 100000 in
set_option maxHeartbeats 800000 in
theorem clength_ok (st n c f lo hi p a q : Int) (s : ByteArray) (w : World) (hf : (f == 1) = false) (h : ¬ (a < lo ∨ hi < a))
    (hg : ∀ W, Calls Tryd.prog 99 #[.int .i64 st, .int .i64 f, .string s, .int .i64 p] W fun e w' => e = .returned (.tuple #[.int .i64 a, .int .i64 q, .int .i64 0]) ∧ Below W.heap.size W w') :
    Calls Tryd.prog 77 #[.int .i64 st, .agg #[.int .i64 n, .int .i64 c, .int .i64 f, .int .i64 lo, .int .i64 hi], .string s, .int .i64 p] w fun e w' => e = .returned (.tuple #[.int .i64 a, .int .i64 q, .int .i64 0]) ∧ Below w.heap.size w w' := by
  have HG := Lib.hid hg
  have t1 : decide (a < lo) = false := by simp; omega
  have t2 : decide (hi < a) = false := by simp; omega
  clear hg h
  go_enter Tryd.func77, Tryd.ntmps77
  go_wp2_with fail
  refine (HG.out _).mono ?_
  rintro e w1 ⟨rfl, hb1⟩
  have HB1 := Lib.hid (hbt (below_al _ _) hb1)
  obtain ⟨c0, c1, c2, c3, c4⟩ := obj_cells5 (spec_at hb1)
  clear hb1
  go_wp2
  go_ret3
  exact ⟨rfl, HB1.out⟩

theorem pget_int {st p : Nat} {f : Int} (s : ByteArray) (W : World) (hst : st = 1 ∨ st = 2) (hf : f = 2 ∨ f = 3) (hs : s.size ≤ 1000000) (hp : p ≤ s.size) :
    Calls Tryd.prog 99 #[.int .i64 (st : Int), .int .i64 f, .string s, .int .i64 (p : Int)] W fun e w' => e = .returned (pgetV (pget st f.toNat s.data.toList p)) ∧ Below W.heap.size W w' := by
  rcases hf with rfl | rfl
  · exact pget_any st 2 p s W hst (.inl rfl) hs hp
  · exact pget_any st 3 p s W hst (.inr rfl) hs hp

theorem clength_any (st p : Nat) (n c f lo hi : Int) (s : ByteArray) (w : World) (hst : st = 1 ∨ st = 2) (hk : spk n c f lo hi = 0) (hs : s.size ≤ 1000000) (hp : p ≤ s.size) :
    Calls Tryd.prog 77 #[.int .i64 (st : Int), .agg #[.int .i64 n, .int .i64 c, .int .i64 f, .int .i64 lo, .int .i64 hi], .string s, .int .i64 (p : Int)] w fun e w' => e = .returned (pgetV (clen st f lo hi s.data.toList p)) ∧ Below w.heap.size w w' := by
  obtain ⟨_, k1, k2, _⟩ := spk_in hk
  by_cases hf : f = 1
  · subst hf
    rw [clen_fixed]
    have := clength_fixed (st : Int) n c lo hi (p : Int) s w
    unfold pgetV
    dsimp only
    rw [Int.toNat_of_nonneg (by omega)]
    exact this
  · have hf2 : f = 2 ∨ f = 3 := by have := (spk_more hk).1; omega
    have hf1 : (f == 1) = false := by simpa using hf
    have hg := fun W => pget_int s W hst hf2 hs hp
    unfold pgetV at hg
    by_cases h : (pget st f.toNat s.data.toList p).2.2 = 0
    · rw [h] at hg
      by_cases h1 : ((pget st f.toNat s.data.toList p).1 : Int) < lo ∨ hi < ((pget st f.toNat s.data.toList p).1 : Int)
      · rw [clen_range hf h h1]
        exact clength_range (st : Int) n c f lo hi (p : Int) _ _ s w hf1 h1 hg
      · rw [clen_ok hf h h1]
        unfold pgetV
        rw [h]
        exact clength_ok (st : Int) n c f lo hi (p : Int) _ _ s w hf1 h1 hg
    · rw [clen_err hf h]
      exact clength_err (st : Int) n c f lo hi (p : Int) _ _ _ s w hf1 (by simpa using h) hg

end Go.Proofs.YtlkpiapmdflahaaDoor

/-
  What Put answers: for every style, spec and text.
-/
namespace Go.Proofs.YtlkpiapmdflahaaDoor
open Go.RowKit

set_option maxRecDepth 100000 in
set_option maxHeartbeats 800000 in
theorem cput_arg (st n c f lo hi : Int) (s : ByteArray) (w : World) (h : st ≠ 1 ∧ st ≠ 2) :
    Calls Tryd.prog 63 #[.int .i64 st, .agg #[.int .i64 n, .int .i64 c, .int .i64 f, .int .i64 lo, .int .i64 hi], .string s] w fun e w' => e = .returned (.tuple #[.string ⟨#[]⟩, .int .i64 1]) ∧ Below w.heap.size w w' := by
  have HK := Lib.hid (cknown_no st h)
  clear h
  go_enter Tryd.func63, Tryd.ntmps63
  go_wp2_with fail
  refine (HK.out _).mono ?_
  rintro e w1 ⟨rfl, rfl⟩
  go_wp2
  go_ret2
  exact ⟨rfl, below_al _ _⟩
set_option maxRecDepth 100000 in
set_option maxHeartbeats 800000 in
theorem cput_err (st n c f lo hi : Int) (s : ByteArray) (w : World) (hw : Kinds w) (hs : s.size ≤ maxLen) (hst : st = 1 ∨ st = 2) (h : spv n c f lo hi s ≠ 0) :
    Calls Tryd.prog 63 #[.int .i64 st, .agg #[.int .i64 n, .int .i64 c, .int .i64 f, .int .i64 lo, .int .i64 hi], .string s] w fun e w' => e = .returned (.tuple #[.string ⟨#[]⟩, .int .i64 (spv n c f lo hi s)]) ∧ Below w.heap.size w w' := by
  have HK := Lib.hid (cknown_yes st hst)
  have HV := Lib.hid (fun W hW => spvalue_any n c f lo hi s W hW hs)
  have HW := Lib.hid hw
  generalize spv n c f lo hi s = x at *
  have t1 : (x != 0) = true := by simpa using h
  clear h hw hst hs
  go_enter Tryd.func63, Tryd.ntmps63
  go_wp2_with fail
  refine (HK.out _).mono ?_
  rintro e w1 ⟨rfl, rfl⟩
  go_wp2_with fail
  refine (HV.out _ (HW.out.below (below_al _ _))).mono ?_
  rintro e w2 ⟨rfl, hb2⟩
  have HB2 := Lib.hid (hbt (below_al _ _) hb2)
  clear hb2
  go_wp2
  go_ret2
  exact ⟨rfl, HB2.out⟩
set_option maxRecDepth 100000 in
set_option maxHeartbeats 800000 in
theorem cput_fixed (st n c lo hi : Int) (s x : ByteArray) (w : World) (hw : Kinds w) (hst : st = 1 ∨ st = 2)
    (hv : ∀ W, Kinds W → Calls Tryd.prog 65 #[.agg #[.int .i64 n, .int .i64 c, .int .i64 1, .int .i64 lo, .int .i64 hi], .string s] W fun e w' => e = .returned (.int .i64 0) ∧ Below W.heap.size W w')
    (hx : ∀ W, Calls Tryd.prog 90 #[.int .i64 st, .int .i64 c, .string s] W fun e w' => e = .returned (.string x) ∧ Below W.heap.size W w') :
    Calls Tryd.prog 63 #[.int .i64 st, .agg #[.int .i64 n, .int .i64 c, .int .i64 1, .int .i64 lo, .int .i64 hi], .string s] w fun e w' => e = .returned (.tuple #[.string x, .int .i64 0]) ∧ Below w.heap.size w w' := by
  have HK := Lib.hid (cknown_yes st hst)
  have HV := Lib.hid hv
  have HX := Lib.hid hx
  have HW := Lib.hid hw
  clear hw hv hx hst
  go_enter Tryd.func63, Tryd.ntmps63
  go_wp2_with fail
  refine (HK.out _).mono ?_
  rintro e w1 ⟨rfl, rfl⟩
  go_wp2_with fail
  refine (HV.out _ (HW.out.below (below_al _ _))).mono ?_
  rintro e w2 ⟨rfl, hb2⟩
  have HB2 := Lib.hid (hbt (below_al _ _) hb2)
  obtain ⟨c0, c1, c2, c3, c4⟩ := obj_cells5 (spec_at hb2)
  clear hb2
  go_wp2_with fail
  refine (HX.out _).mono ?_
  rintro e w3 ⟨rfl, hb3⟩
  have HB3 := Lib.hid (hbt HB2.out hb3)
  clear hb3 c0 c1 c2 c3 c4
  go_wp2
  go_ret2
  exact ⟨rfl, HB3.out⟩
set_option maxRecDepth 100000 in
set_option maxHeartbeats 800000 in
theorem cput_var (st n c f lo hi : Int) (s x y : ByteArray) (w : World) (hw : Kinds w) (hst : st = 1 ∨ st = 2) (hf : (f == 1) = false) (hxy : x.size + y.size ≤ 10000)
    (hv : ∀ W, Kinds W → Calls Tryd.prog 65 #[.agg #[.int .i64 n, .int .i64 c, .int .i64 f, .int .i64 lo, .int .i64 hi], .string s] W fun e w' => e = .returned (.int .i64 0) ∧ Below W.heap.size W w')
    (hp : ∀ W, Calls Tryd.prog 91 #[.int .i64 st, .int .i64 f, .int .i64 (s.size : Int)] W fun e w' => e = .returned (.tuple #[.string y, .int .i64 0]) ∧ Below W.heap.size W w')
    (hx : ∀ W, Calls Tryd.prog 90 #[.int .i64 st, .int .i64 c, .string s] W fun e w' => e = .returned (.string x) ∧ Below W.heap.size W w') :
    Calls Tryd.prog 63 #[.int .i64 st, .agg #[.int .i64 n, .int .i64 c, .int .i64 f, .int .i64 lo, .int .i64 hi], .string s] w fun e w' => e = .returned (.tuple #[.string (y ++ x), .int .i64 0]) ∧ Below w.heap.size w w' := by
  have HK := Lib.hid (cknown_yes st hst)
  have HV := Lib.hid hv
  have HX := Lib.hid hx
  have HP := Lib.hid hp
  have HW := Lib.hid hw
  have hadd : ∀ W : World, (Op.stringOp .add y x).run Tryd.prog W = .ok (.string (y ++ x)) W := fun W => run_string_add_sum W y x (by omega)
  clear hw hv hx hp hst hxy
  go_enter Tryd.func63, Tryd.ntmps63
  go_wp2_with fail
  refine (HK.out _).mono ?_
  rintro e w1 ⟨rfl, rfl⟩
  go_wp2_with fail
  refine (HV.out _ (HW.out.below (below_al _ _))).mono ?_
  rintro e w2 ⟨rfl, hb2⟩
  have HB2 := Lib.hid (hbt (below_al _ _) hb2)
  have HO2 := Lib.hid (spec_at hb2)
  obtain ⟨c0, c1, c2, c3, c4⟩ := obj_cells5 HO2.out
  clear hb2
  go_wp2_with fail
  refine (HP.out _).mono ?_
  rintro e w3 ⟨rfl, hb3⟩
  have HB3 := Lib.hid (hbt HB2.out hb3)
  clear c0 c1 c2 c3 c4
  obtain ⟨c0, c1, c2, c3, c4⟩ := obj_cells5 (obj_below HO2.out hb3)
  clear hb3
  go_wp2_with fail
  refine (HX.out _).mono ?_
  rintro e w4 ⟨rfl, hb4⟩
  have HB4 := Lib.hid (hbt HB3.out hb4)
  clear hb4 c0 c1 c2 c3 c4
  go_wp2
  go_ret2
  exact ⟨rfl, HB4.out⟩

theorem pput_int {st m : Nat} {f : Int} (W : World) (hst : st = 1 ∨ st = 2) (hf : f.toNat = 2 ∨ f.toNat = 3) (hm : m < 10 ^ f.toNat) :
    Calls Tryd.prog 91 #[.int .i64 (st : Int), .int .i64 f, .int .i64 (m : Int)] W fun e w' => e = .returned (.tuple #[.string ⟨(pputL st f.toNat m).toArray⟩, .int .i64 0]) ∧ Below W.heap.size W w' := by
  have hf2 : f = 2 ∨ f = 3 := by omega
  rcases hf2 with rfl | rfl
  · exact pput_ok st 2 m W hst (.inl rfl) hm
  · exact pput_ok st 3 m W hst (.inr rfl) hm
theorem cputL_fixed (st : Nat) (c : Int) (l : List UInt8) : cputL st c 1 l = spellL (cway st c) l := by unfold cputL; rw [if_pos rfl, List.nil_append]
theorem cputL_var {st : Nat} {c f : Int} {l : List UInt8} (hf : f ≠ 1) : (⟨(cputL st c f l).toArray⟩ : ByteArray) = ⟨(pputL st f.toNat l.length).toArray⟩ ++ ⟨(spellL (cway st c) l).toArray⟩ := by
  unfold cputL
  rw [if_neg hf]
  apply ext_eq
  rw [app_list, mk_list, mk_list, mk_list]

/-- What Put answers, of a value. -/
theorem cput_ok (st : Nat) (n c f lo hi : Int) (s : ByteArray) (w : World) (hw : Kinds w) (hst : st = 1 ∨ st = 2) (h : spv n c f lo hi s = 0) :
    Calls Tryd.prog 63 #[.int .i64 (st : Int), .agg #[.int .i64 n, .int .i64 c, .int .i64 f, .int .i64 lo, .int .i64 hi], .string s] w fun e w' => e = .returned (.tuple #[.string ⟨(cputL st c f s.data.toList).toArray⟩, .int .i64 0]) ∧ Below w.heap.size w w' := by
  obtain ⟨g1, g2, g3, _⟩ := spv_in h
  obtain ⟨_, k1, k2, k3⟩ := spk_in g1
  have hs : s.size ≤ 999 := by omega
  have hv := fun W hW => spvalue_any n c f lo hi s W hW (by unfold maxLen; omega)
  rw [h] at hv
  have hx := fun W => cspell_any st c s W hst hs (fun hk => by
    obtain ⟨_, rfl⟩ := cway_one hk
    exact fst_digits g3)
  by_cases hf : f = 1
  · subst hf
    rw [cputL_fixed]
    exact cput_fixed (st : Int) n c lo hi s _ w hw (by omega) hv hx
  · obtain ⟨f1, f2⟩ := spk_most g1 hf s.size (by omega)
    rw [cputL_var hf, list_size]
    have e1 := pputL_length (st := st) s.size f1
    have e2 := (psz_le (st := st) f1).2
    have e3 := csz_le (cway st c) s.size
    exact cput_var (st : Int) n c f lo hi s _ _ w hw (by omega) (by simpa using hf) (by have i1 := mk_size (spellL (cway st c) s.data.toList); have i2 := mk_size (pputL st f.toNat s.size); have i3 := spellL_length (cway st c) s.data.toList; rw [list_size] at i3; rw [i1, i2, i3, e1]; omega) hv (fun W => pput_int W hst f1 f2) hx

end Go.Proofs.YtlkpiapmdflahaaDoor

/-
  What Get answers: for every style, spec, text and place.
-/
namespace Go.Proofs.YtlkpiapmdflahaaDoor
open Go.RowKit

set_option linter.unusedVariables false in
set_option maxRecDepth 100000 in
set_option maxHeartbeats 1600000 in
theorem cgw_style (st n c f lo hi p : Int) (s : ByteArray) (w : World) (h : st ≠ 1 ∧ st ≠ 2) :
    Calls Tryd.prog 47 #[.int .i64 st, .agg #[.int .i64 n, .int .i64 c, .int .i64 f, .int .i64 lo, .int .i64 hi], .string s, .int .i64 p] w fun e w' => e = .returned (.tuple #[.string ⟨#[]⟩, .int .i64 0, .int .i64 1]) ∧ Below w.heap.size w w' := by
  have HK := Lib.hid (cknown_no st h)
  clear h
  go_enter Tryd.func47, Tryd.ntmps47
  go_wp2_with fail
  refine (HK.out _).mono ?_
  rintro e w1 ⟨rfl, rfl⟩
  go_wp2
  go_ret3
  exact ⟨rfl, below_al _ _⟩
set_option linter.unusedVariables false in
set_option maxRecDepth 100000 in
set_option maxHeartbeats 1600000 in
theorem cgw_check (st n c f lo hi p : Int) (s : ByteArray) (w : World) (hst : st = 1 ∨ st = 2) (h : spk n c f lo hi ≠ 0) :
    Calls Tryd.prog 47 #[.int .i64 st, .agg #[.int .i64 n, .int .i64 c, .int .i64 f, .int .i64 lo, .int .i64 hi], .string s, .int .i64 p] w fun e w' => e = .returned (.tuple #[.string ⟨#[]⟩, .int .i64 0, .int .i64 1]) ∧ Below w.heap.size w w' := by
  have HK := Lib.hid (cknown_yes st hst)
  have HC := Lib.hid (fun W => spcheck_any n c f lo hi W)
  generalize spk n c f lo hi = x at *
  have t1 : (x != 0) = true := by simpa using h
  clear h hst
  go_enter Tryd.func47, Tryd.ntmps47
  go_wp2_with fail
  refine (HK.out _).mono ?_
  rintro e w0 ⟨rfl, rfl⟩
  go_wp2_with fail
  refine (HC.out _).mono ?_
  rintro e w1 ⟨rfl, hb1⟩
  have HB1 := Lib.hid (hbt (below_al _ _) hb1)
  have HO1 := Lib.hid (spec_at hb1)
  obtain ⟨c0, c1, c2, c3, c4⟩ := obj_cells5 HO1.out
  clear hb1
  go_wp2
  go_ret3
  exact ⟨rfl, HB1.out⟩
set_option linter.unusedVariables false in
set_option maxRecDepth 100000 in
set_option maxHeartbeats 1600000 in
theorem cgw_low (st n c f lo hi p : Int) (s : ByteArray) (w : World) (hst : st = 1 ∨ st = 2) (hk : spk n c f lo hi = 0) (h : p < 0) :
    Calls Tryd.prog 47 #[.int .i64 st, .agg #[.int .i64 n, .int .i64 c, .int .i64 f, .int .i64 lo, .int .i64 hi], .string s, .int .i64 p] w fun e w' => e = .returned (.tuple #[.string ⟨#[]⟩, .int .i64 0, .int .i64 1]) ∧ Below w.heap.size w w' := by
  have HK := Lib.hid (cknown_yes st hst)
  have HC := Lib.hid (fun W => spcheck_any n c f lo hi W)
  rw [hk] at HC
  have t1 : decide (p < 0) = true := by simpa using h
  clear h hst hk
  go_enter Tryd.func47, Tryd.ntmps47
  go_wp2_with fail
  refine (HK.out _).mono ?_
  rintro e w0 ⟨rfl, rfl⟩
  go_wp2_with fail
  refine (HC.out _).mono ?_
  rintro e w1 ⟨rfl, hb1⟩
  have HB1 := Lib.hid (hbt (below_al _ _) hb1)
  have HO1 := Lib.hid (spec_at hb1)
  obtain ⟨c0, c1, c2, c3, c4⟩ := obj_cells5 HO1.out
  clear hb1
  go_wp2
  go_ret3
  exact ⟨rfl, HB1.out⟩
set_option linter.unusedVariables false in
set_option maxRecDepth 100000 in
set_option maxHeartbeats 1600000 in
theorem cgw_high (st n c f lo hi p : Int) (s : ByteArray) (w : World) (hst : st = 1 ∨ st = 2) (hk : spk n c f lo hi = 0) (h : (s.size : Int) < p) :
    Calls Tryd.prog 47 #[.int .i64 st, .agg #[.int .i64 n, .int .i64 c, .int .i64 f, .int .i64 lo, .int .i64 hi], .string s, .int .i64 p] w fun e w' => e = .returned (.tuple #[.string ⟨#[]⟩, .int .i64 0, .int .i64 1]) ∧ Below w.heap.size w w' := by
  have HK := Lib.hid (cknown_yes st hst)
  have HC := Lib.hid (fun W => spcheck_any n c f lo hi W)
  rw [hk] at HC
  have t1 : decide (p < 0) = false := by simp; omega
  have t2 : decide ((s.size : Int) < p) = true := by simpa using h
  clear h hst hk
  go_enter Tryd.func47, Tryd.ntmps47
  go_wp2_with fail
  refine (HK.out _).mono ?_
  rintro e w0 ⟨rfl, rfl⟩
  go_wp2_with fail
  refine (HC.out _).mono ?_
  rintro e w1 ⟨rfl, hb1⟩
  have HB1 := Lib.hid (hbt (below_al _ _) hb1)
  have HO1 := Lib.hid (spec_at hb1)
  obtain ⟨c0, c1, c2, c3, c4⟩ := obj_cells5 HO1.out
  clear hb1
  go_wp2
  go_ret3
  exact ⟨rfl, HB1.out⟩
set_option linter.unusedVariables false in
set_option maxRecDepth 100000 in
set_option maxHeartbeats 1600000 in
theorem cgw_len (st n c f lo hi : Int) (p : Nat) (s : ByteArray) (w : World) (hst : st = 1 ∨ st = 2) (hk : spk n c f lo hi = 0) (hs : s.size ≤ 1000000) (hp : p ≤ s.size) (a q x : Nat) (hx : x ≠ 0)
    (hl : ∀ W, Calls Tryd.prog 77 #[.int .i64 st, .agg #[.int .i64 n, .int .i64 c, .int .i64 f, .int .i64 lo, .int .i64 hi], .string s, .int .i64 (p : Int)] W fun e w' => e = .returned (.tuple #[.int .i64 (a : Int), .int .i64 (q : Int), .int .i64 (x : Int)]) ∧ Below W.heap.size W w') :
    Calls Tryd.prog 47 #[.int .i64 st, .agg #[.int .i64 n, .int .i64 c, .int .i64 f, .int .i64 lo, .int .i64 hi], .string s, .int .i64 (p : Int)] w fun e w' => e = .returned (.tuple #[.string ⟨#[]⟩, .int .i64 0, .int .i64 (x : Int)]) ∧ Below w.heap.size w w' := by
  have HK := Lib.hid (cknown_yes st hst)
  have HC := Lib.hid (fun W => spcheck_any n c f lo hi W)
  rw [hk] at HC
  have t1 : decide ((p : Int) < 0) = false := by simp
  have t2 : decide (s.size < p) = false := by simp; omega
  have t3 : ((x : Int) != 0) = true := by simpa using hx
  have HL := Lib.hid hl
  clear hl hst hk hx hp
  go_enter Tryd.func47, Tryd.ntmps47
  go_wp2_with fail
  refine (HK.out _).mono ?_
  rintro e w0 ⟨rfl, rfl⟩
  go_wp2_with fail
  refine (HC.out _).mono ?_
  rintro e w1 ⟨rfl, hb1⟩
  have HB1 := Lib.hid (hbt (below_al _ _) hb1)
  have HO1 := Lib.hid (spec_at hb1)
  obtain ⟨c0, c1, c2, c3, c4⟩ := obj_cells5 HO1.out
  clear hb1
  go_wp2_with fail
  refine (HL.out _).mono ?_
  rintro e w2 ⟨rfl, hb2⟩
  have HB2 := Lib.hid (hbt HB1.out hb2)
  have HO2 := Lib.hid (obj_below HO1.out hb2)
  clear hb2 c0 c1 c2 c3 c4
  obtain ⟨c0, c1, c2, c3, c4⟩ := obj_cells5 HO2.out
  go_wp2
  go_ret3
  exact ⟨rfl, HB2.out⟩
set_option linter.unusedVariables false in
set_option maxRecDepth 100000 in
set_option maxHeartbeats 1600000 in
theorem cgw_cut (st n c f lo hi : Int) (p : Nat) (s : ByteArray) (w : World) (hst : st = 1 ∨ st = 2) (hk : spk n c f lo hi = 0) (hs : s.size ≤ 1000000) (hp : p ≤ s.size) (a q z : Nat) (hq : q ≤ 1000000) (hzb : z ≤ 2000) (h : s.size < q + z)
    (hl : ∀ W, Calls Tryd.prog 77 #[.int .i64 st, .agg #[.int .i64 n, .int .i64 c, .int .i64 f, .int .i64 lo, .int .i64 hi], .string s, .int .i64 (p : Int)] W fun e w' => e = .returned (.tuple #[.int .i64 (a : Int), .int .i64 (q : Int), .int .i64 0]) ∧ Below W.heap.size W w')
    (hz : ∀ W, Calls Tryd.prog 78 #[.int .i64 st, .int .i64 c, .int .i64 (a : Int)] W fun e w' => e = .returned (.int .i64 (z : Int)) ∧ W = w') :
    Calls Tryd.prog 47 #[.int .i64 st, .agg #[.int .i64 n, .int .i64 c, .int .i64 f, .int .i64 lo, .int .i64 hi], .string s, .int .i64 (p : Int)] w fun e w' => e = .returned (.tuple #[.string ⟨#[]⟩, .int .i64 0, .int .i64 2]) ∧ Below w.heap.size w w' := by
  have HK := Lib.hid (cknown_yes st hst)
  have HC := Lib.hid (fun W => spcheck_any n c f lo hi W)
  rw [hk] at HC
  have t1 : decide ((p : Int) < 0) = false := by simp
  have t2 : decide (s.size < p) = false := by simp; omega
  have HL := Lib.hid hl
  have HZ := Lib.hid hz
  clear hl hz hst hk hp
  go_enter Tryd.func47, Tryd.ntmps47
  go_wp2_with fail
  refine (HK.out _).mono ?_
  rintro e w0 ⟨rfl, rfl⟩
  go_wp2_with fail
  refine (HC.out _).mono ?_
  rintro e w1 ⟨rfl, hb1⟩
  have HB1 := Lib.hid (hbt (below_al _ _) hb1)
  have HO1 := Lib.hid (spec_at hb1)
  obtain ⟨c0, c1, c2, c3, c4⟩ := obj_cells5 HO1.out
  clear hb1
  go_wp2_with fail
  refine (HL.out _).mono ?_
  rintro e w2 ⟨rfl, hb2⟩
  have HB2 := Lib.hid (hbt HB1.out hb2)
  have HO2 := Lib.hid (obj_below HO1.out hb2)
  clear hb2 c0 c1 c2 c3 c4
  obtain ⟨c0, c1, c2, c3, c4⟩ := obj_cells5 HO2.out
  go_wp2_with fail
  refine (HZ.out _).mono ?_
  rintro e w9 ⟨rfl, rfl⟩
  go_wp2
  go_ret3
  exact ⟨rfl, HB2.out⟩
set_option linter.unusedVariables false in
set_option maxRecDepth 100000 in
set_option maxHeartbeats 1600000 in
theorem cgw_read (st n c f lo hi : Int) (p : Nat) (s : ByteArray) (w : World) (hst : st = 1 ∨ st = 2) (hk : spk n c f lo hi = 0) (hs : s.size ≤ 1000000) (hp : p ≤ s.size) (a q z : Nat) (hq : q ≤ 1000000) (hzb : z ≤ 2000) (h : q + z ≤ s.size) (t : ByteArray) (y : Nat) (hy : y ≠ 0)
    (hl : ∀ W, Calls Tryd.prog 77 #[.int .i64 st, .agg #[.int .i64 n, .int .i64 c, .int .i64 f, .int .i64 lo, .int .i64 hi], .string s, .int .i64 (p : Int)] W fun e w' => e = .returned (.tuple #[.int .i64 (a : Int), .int .i64 (q : Int), .int .i64 0]) ∧ Below W.heap.size W w')
    (hz : ∀ W, Calls Tryd.prog 78 #[.int .i64 st, .int .i64 c, .int .i64 (a : Int)] W fun e w' => e = .returned (.int .i64 (z : Int)) ∧ W = w')
    (hr : ∀ W, Calls Tryd.prog 79 #[.int .i64 st, .int .i64 c, .string (s.extract q (q + z)), .int .i64 (a : Int)] W fun e w' => e = .returned (.tuple #[.string t, .int .i64 (y : Int)]) ∧ Below W.heap.size W w') :
    Calls Tryd.prog 47 #[.int .i64 st, .agg #[.int .i64 n, .int .i64 c, .int .i64 f, .int .i64 lo, .int .i64 hi], .string s, .int .i64 (p : Int)] w fun e w' => e = .returned (.tuple #[.string ⟨#[]⟩, .int .i64 0, .int .i64 (y : Int)]) ∧ Below w.heap.size w w' := by
  have HK := Lib.hid (cknown_yes st hst)
  have HC := Lib.hid (fun W => spcheck_any n c f lo hi W)
  rw [hk] at HC
  have t1 : decide ((p : Int) < 0) = false := by simp
  have t2 : decide (s.size < p) = false := by simp; omega
  have t3 : ((y : Int) != 0) = true := by simpa using hy
  have HL := Lib.hid hl
  have HZ := Lib.hid hz
  have HR := Lib.hid hr
  clear hl hz hr hst hk hp hy
  go_enter Tryd.func47, Tryd.ntmps47
  go_wp2_with fail
  refine (HK.out _).mono ?_
  rintro e w0 ⟨rfl, rfl⟩
  go_wp2_with fail
  refine (HC.out _).mono ?_
  rintro e w1 ⟨rfl, hb1⟩
  have HB1 := Lib.hid (hbt (below_al _ _) hb1)
  have HO1 := Lib.hid (spec_at hb1)
  obtain ⟨c0, c1, c2, c3, c4⟩ := obj_cells5 HO1.out
  clear hb1
  go_wp2_with fail
  refine (HL.out _).mono ?_
  rintro e w2 ⟨rfl, hb2⟩
  have HB2 := Lib.hid (hbt HB1.out hb2)
  have HO2 := Lib.hid (obj_below HO1.out hb2)
  clear hb2 c0 c1 c2 c3 c4
  obtain ⟨c0, c1, c2, c3, c4⟩ := obj_cells5 HO2.out
  go_wp2_with fail
  refine (HZ.out _).mono ?_
  rintro e w9 ⟨rfl, rfl⟩
  go_wp2_with fail
  have HS := Lib.hid (show Spec1 w n c f lo hi _ from ⟨HB2.out, HO2.out⟩)
  clear c0 c1 c2 c3 c4
  refine wp_region_noPanic ?_
  refine wp_region_held_drew (S := (Spec1 w n c f lo hi)) (by kernel_rfl) (HS.out.drew) (fun hS => ?_)
  refine give_val (i := 0) (v := ?_) rfl (by kernel_rfl) (by kernel_rfl) (by kernel_rfl) (fun _ _ _ h => h) (by rfl) (fun u hu => ?_) hS ?_
  rotate_left
  · ((obtain ⟨c0, c1, c2, c3, c4⟩ := obj_cells5 hu.2); go_simp; try (with_reducible rfl))
  try simp only [Act.put, List.setIfInBounds_toArray, List.set_cons_zero, List.set_cons_succ]
  refine give_val (i := 1) (v := ?_) rfl (by kernel_rfl) (by kernel_rfl) (by kernel_rfl) (fun _ _ _ h => h) (by rfl) (fun u hu => ?_) hS ?_
  rotate_left
  · ((obtain ⟨c0, c1, c2, c3, c4⟩ := obj_cells5 hu.2); go_simp; try (with_reducible rfl))
  try simp only [Act.put, List.setIfInBounds_toArray, List.set_cons_zero, List.set_cons_succ]
  refine give_val (i := 2) (v := ?_) rfl (by kernel_rfl) (by kernel_rfl) (by kernel_rfl) (fun _ _ _ h => h) (by rfl) (fun u hu => ?_) hS ?_
  rotate_left
  · ((obtain ⟨c0, c1, c2, c3, c4⟩ := obj_cells5 hu.2); go_simp; try (with_reducible rfl))
  try simp only [Act.put, List.setIfInBounds_toArray, List.set_cons_zero, List.set_cons_succ]
  refine give_val (i := 3) (v := ?_) rfl (by kernel_rfl) (by kernel_rfl) (by kernel_rfl) (fun _ _ _ h => h) (by rfl) (fun u hu => ?_) hS ?_
  rotate_left
  · ((obtain ⟨c0, c1, c2, c3, c4⟩ := obj_cells5 hu.2); go_simp; try (with_reducible rfl))
  try simp only [Act.put, List.setIfInBounds_toArray, List.set_cons_zero, List.set_cons_succ]
  refine give_val (i := 4) (v := ?_) rfl (by kernel_rfl) (by kernel_rfl) (by kernel_rfl) (fun _ _ _ h => h) (by rfl) (fun u hu => ?_) hS ?_
  rotate_left
  · ((obtain ⟨c0, c1, c2, c3, c4⟩ := obj_cells5 hu.2); go_simp; try (with_reducible rfl))
  try simp only [Act.put, List.setIfInBounds_toArray, List.set_cons_zero, List.set_cons_succ]
  refine give_val (i := 5) (v := ?_) rfl (by kernel_rfl) (by kernel_rfl) (by kernel_rfl) (fun _ _ _ h => h) (by rfl) (fun u hu => ?_) hS ?_
  rotate_left
  · ((obtain ⟨c0, c1, c2, c3, c4⟩ := obj_cells5 hu.2); go_simp; try (with_reducible rfl))
  try simp only [Act.put, List.setIfInBounds_toArray, List.set_cons_zero, List.set_cons_succ]
  refine give_val (i := 6) (v := (.string (s.extract q (q + z)))) rfl (by kernel_rfl) (by kernel_rfl) (by kernel_rfl) (fun _ _ _ h => h) (by rfl) (fun u hu => ?_) hS ?_
  · ((obtain ⟨c0, c1, c2, c3, c4⟩ := obj_cells5 hu.2); go_simp; rw [if_pos (by omega), if_pos (by omega), show ((q : Int) + (z : Int)).toNat = q + z from by omega])
  try simp only [Act.put, List.setIfInBounds_toArray, List.set_cons_zero, List.set_cons_succ]
  refine give_val (i := 7) (v := ?_) rfl (by kernel_rfl) (by kernel_rfl) (by kernel_rfl) (fun _ _ _ h => h) (by rfl) (fun u hu => ?_) hS ?_
  rotate_left
  · ((obtain ⟨c0, c1, c2, c3, c4⟩ := obj_cells5 hu.2); go_simp; try (with_reducible rfl))
  try simp only [Act.put, List.setIfInBounds_toArray, List.set_cons_zero, List.set_cons_succ]
  refine only_call (i := 8) 79 #[.int .i64 st, .int .i64 c, .string (s.extract q (q + z)), .int .i64 (a : Int)] rfl (by kernel_rfl) (by rfl) ((HR.out _).mono fun e w' he => ⟨he.1, hS.below he.2⟩) ?_ ?_
  · (go_simp; try (with_reducible rfl))
  clear hS
  intro w8 hS
  try simp only [Act.put, List.setIfInBounds_toArray, List.set_cons_zero, List.set_cons_succ]
  refine give_val (i := 9) (v := ?_) rfl (by kernel_rfl) (by kernel_rfl) (by kernel_rfl) (fun _ _ _ h => h) (by rfl) (fun u hu => ?_) hS ?_
  rotate_left
  · ((obtain ⟨c0, c1, c2, c3, c4⟩ := obj_cells5 hu.2); go_simp; try (with_reducible rfl))
  try simp only [Act.put, List.setIfInBounds_toArray, List.set_cons_zero, List.set_cons_succ]
  refine give_val (i := 10) (v := ?_) rfl (by kernel_rfl) (by kernel_rfl) (by kernel_rfl) (fun _ _ _ h => h) (by rfl) (fun u hu => ?_) hS ?_
  rotate_left
  · ((obtain ⟨c0, c1, c2, c3, c4⟩ := obj_cells5 hu.2); go_simp; try (with_reducible rfl))
  try simp only [Act.put, List.setIfInBounds_toArray, List.set_cons_zero, List.set_cons_succ]
  refine give_val (i := 11) (v := ?_) rfl (by kernel_rfl) (by kernel_rfl) (by kernel_rfl) (fun _ _ _ h => h) (by rfl) (fun u hu => ?_) hS ?_
  rotate_left
  · ((obtain ⟨c0, c1, c2, c3, c4⟩ := obj_cells5 hu.2); go_simp; try (with_reducible rfl))
  try simp only [Act.put, List.setIfInBounds_toArray, List.set_cons_zero, List.set_cons_succ]
  refine give_val (i := 12) (v := ?_) rfl (by kernel_rfl) (by kernel_rfl) (by kernel_rfl) (fun _ _ _ h => h) (by rfl) (fun u hu => ?_) hS ?_
  rotate_left
  · ((obtain ⟨c0, c1, c2, c3, c4⟩ := obj_cells5 hu.2); go_simp; try (with_reducible rfl))
  try simp only [Act.put, List.setIfInBounds_toArray, List.set_cons_zero, List.set_cons_succ]
  refine give_val (i := 13) (v := ?_) rfl (by kernel_rfl) (by kernel_rfl) (by kernel_rfl) (fun _ _ _ h => h) (by rfl) (fun u hu => ?_) hS ?_
  rotate_left
  · ((obtain ⟨c0, c1, c2, c3, c4⟩ := obj_cells5 hu.2); go_simp; try (with_reducible rfl))
  try simp only [Act.put, List.setIfInBounds_toArray, List.set_cons_zero, List.set_cons_succ]
  refine wpAnyH_done (by kernel_rfl) (NoPanic.normal ?_) _
  have HB3 := Lib.hid hS.1
  have HO3 := Lib.hid hS.2
  clear hS
  obtain ⟨c0, c1, c2, c3, c4⟩ := obj_cells5 HO3.out
  go_wp2
  go_ret3
  exact ⟨rfl, HB3.out⟩
set_option linter.unusedVariables false in
set_option maxRecDepth 100000 in
set_option maxHeartbeats 1600000 in
theorem cgw_val (st n c f lo hi : Int) (p : Nat) (s : ByteArray) (w : World) (hst : st = 1 ∨ st = 2) (hk : spk n c f lo hi = 0) (hs : s.size ≤ 1000000) (hp : p ≤ s.size) (a q z : Nat) (hq : q ≤ 1000000) (hzb : z ≤ 2000) (h : q + z ≤ s.size) (t : ByteArray) (x : Int) (hx : x ≠ 0) (hw : Kinds w)
    (hl : ∀ W, Calls Tryd.prog 77 #[.int .i64 st, .agg #[.int .i64 n, .int .i64 c, .int .i64 f, .int .i64 lo, .int .i64 hi], .string s, .int .i64 (p : Int)] W fun e w' => e = .returned (.tuple #[.int .i64 (a : Int), .int .i64 (q : Int), .int .i64 0]) ∧ Below W.heap.size W w')
    (hz : ∀ W, Calls Tryd.prog 78 #[.int .i64 st, .int .i64 c, .int .i64 (a : Int)] W fun e w' => e = .returned (.int .i64 (z : Int)) ∧ W = w')
    (hr : ∀ W, Calls Tryd.prog 79 #[.int .i64 st, .int .i64 c, .string (s.extract q (q + z)), .int .i64 (a : Int)] W fun e w' => e = .returned (.tuple #[.string t, .int .i64 0]) ∧ Below W.heap.size W w')
    (hv : ∀ W, Kinds W → Calls Tryd.prog 65 #[.agg #[.int .i64 n, .int .i64 c, .int .i64 f, .int .i64 lo, .int .i64 hi], .string t] W fun e w' => e = .returned (.int .i64 x) ∧ Below W.heap.size W w') :
    Calls Tryd.prog 47 #[.int .i64 st, .agg #[.int .i64 n, .int .i64 c, .int .i64 f, .int .i64 lo, .int .i64 hi], .string s, .int .i64 (p : Int)] w fun e w' => e = .returned (.tuple #[.string ⟨#[]⟩, .int .i64 0, .int .i64 x]) ∧ Below w.heap.size w w' := by
  have HK := Lib.hid (cknown_yes st hst)
  have HC := Lib.hid (fun W => spcheck_any n c f lo hi W)
  rw [hk] at HC
  have t1 : decide ((p : Int) < 0) = false := by simp
  have t2 : decide (s.size < p) = false := by simp; omega
  have t3 : (x != 0) = true := by simpa using hx
  have HL := Lib.hid hl
  have HZ := Lib.hid hz
  have HR := Lib.hid hr
  have HV := Lib.hid hv
  have HW := Lib.hid hw
  clear hl hz hr hv hw hst hk hp hx
  go_enter Tryd.func47, Tryd.ntmps47
  go_wp2_with fail
  refine (HK.out _).mono ?_
  rintro e w0 ⟨rfl, rfl⟩
  go_wp2_with fail
  refine (HC.out _).mono ?_
  rintro e w1 ⟨rfl, hb1⟩
  have HB1 := Lib.hid (hbt (below_al _ _) hb1)
  have HO1 := Lib.hid (spec_at hb1)
  obtain ⟨c0, c1, c2, c3, c4⟩ := obj_cells5 HO1.out
  clear hb1
  go_wp2_with fail
  refine (HL.out _).mono ?_
  rintro e w2 ⟨rfl, hb2⟩
  have HB2 := Lib.hid (hbt HB1.out hb2)
  have HO2 := Lib.hid (obj_below HO1.out hb2)
  clear hb2 c0 c1 c2 c3 c4
  obtain ⟨c0, c1, c2, c3, c4⟩ := obj_cells5 HO2.out
  go_wp2_with fail
  refine (HZ.out _).mono ?_
  rintro e w9 ⟨rfl, rfl⟩
  go_wp2_with fail
  have HS := Lib.hid (show Spec1 w n c f lo hi _ from ⟨HB2.out, HO2.out⟩)
  clear c0 c1 c2 c3 c4
  refine wp_region_noPanic ?_
  refine wp_region_held_drew (S := (Spec1 w n c f lo hi)) (by kernel_rfl) (HS.out.drew) (fun hS => ?_)
  refine give_val (i := 0) (v := ?_) rfl (by kernel_rfl) (by kernel_rfl) (by kernel_rfl) (fun _ _ _ h => h) (by rfl) (fun u hu => ?_) hS ?_
  rotate_left
  · ((obtain ⟨c0, c1, c2, c3, c4⟩ := obj_cells5 hu.2); go_simp; try (with_reducible rfl))
  try simp only [Act.put, List.setIfInBounds_toArray, List.set_cons_zero, List.set_cons_succ]
  refine give_val (i := 1) (v := ?_) rfl (by kernel_rfl) (by kernel_rfl) (by kernel_rfl) (fun _ _ _ h => h) (by rfl) (fun u hu => ?_) hS ?_
  rotate_left
  · ((obtain ⟨c0, c1, c2, c3, c4⟩ := obj_cells5 hu.2); go_simp; try (with_reducible rfl))
  try simp only [Act.put, List.setIfInBounds_toArray, List.set_cons_zero, List.set_cons_succ]
  refine give_val (i := 2) (v := ?_) rfl (by kernel_rfl) (by kernel_rfl) (by kernel_rfl) (fun _ _ _ h => h) (by rfl) (fun u hu => ?_) hS ?_
  rotate_left
  · ((obtain ⟨c0, c1, c2, c3, c4⟩ := obj_cells5 hu.2); go_simp; try (with_reducible rfl))
  try simp only [Act.put, List.setIfInBounds_toArray, List.set_cons_zero, List.set_cons_succ]
  refine give_val (i := 3) (v := ?_) rfl (by kernel_rfl) (by kernel_rfl) (by kernel_rfl) (fun _ _ _ h => h) (by rfl) (fun u hu => ?_) hS ?_
  rotate_left
  · ((obtain ⟨c0, c1, c2, c3, c4⟩ := obj_cells5 hu.2); go_simp; try (with_reducible rfl))
  try simp only [Act.put, List.setIfInBounds_toArray, List.set_cons_zero, List.set_cons_succ]
  refine give_val (i := 4) (v := ?_) rfl (by kernel_rfl) (by kernel_rfl) (by kernel_rfl) (fun _ _ _ h => h) (by rfl) (fun u hu => ?_) hS ?_
  rotate_left
  · ((obtain ⟨c0, c1, c2, c3, c4⟩ := obj_cells5 hu.2); go_simp; try (with_reducible rfl))
  try simp only [Act.put, List.setIfInBounds_toArray, List.set_cons_zero, List.set_cons_succ]
  refine give_val (i := 5) (v := ?_) rfl (by kernel_rfl) (by kernel_rfl) (by kernel_rfl) (fun _ _ _ h => h) (by rfl) (fun u hu => ?_) hS ?_
  rotate_left
  · ((obtain ⟨c0, c1, c2, c3, c4⟩ := obj_cells5 hu.2); go_simp; try (with_reducible rfl))
  try simp only [Act.put, List.setIfInBounds_toArray, List.set_cons_zero, List.set_cons_succ]
  refine give_val (i := 6) (v := (.string (s.extract q (q + z)))) rfl (by kernel_rfl) (by kernel_rfl) (by kernel_rfl) (fun _ _ _ h => h) (by rfl) (fun u hu => ?_) hS ?_
  · ((obtain ⟨c0, c1, c2, c3, c4⟩ := obj_cells5 hu.2); go_simp; rw [if_pos (by omega), if_pos (by omega), show ((q : Int) + (z : Int)).toNat = q + z from by omega])
  try simp only [Act.put, List.setIfInBounds_toArray, List.set_cons_zero, List.set_cons_succ]
  refine give_val (i := 7) (v := ?_) rfl (by kernel_rfl) (by kernel_rfl) (by kernel_rfl) (fun _ _ _ h => h) (by rfl) (fun u hu => ?_) hS ?_
  rotate_left
  · ((obtain ⟨c0, c1, c2, c3, c4⟩ := obj_cells5 hu.2); go_simp; try (with_reducible rfl))
  try simp only [Act.put, List.setIfInBounds_toArray, List.set_cons_zero, List.set_cons_succ]
  refine only_call (i := 8) 79 #[.int .i64 st, .int .i64 c, .string (s.extract q (q + z)), .int .i64 (a : Int)] rfl (by kernel_rfl) (by rfl) ((HR.out _).mono fun e w' he => ⟨he.1, hS.below he.2⟩) ?_ ?_
  · (go_simp; try (with_reducible rfl))
  clear hS
  intro w8 hS
  try simp only [Act.put, List.setIfInBounds_toArray, List.set_cons_zero, List.set_cons_succ]
  refine give_val (i := 9) (v := ?_) rfl (by kernel_rfl) (by kernel_rfl) (by kernel_rfl) (fun _ _ _ h => h) (by rfl) (fun u hu => ?_) hS ?_
  rotate_left
  · ((obtain ⟨c0, c1, c2, c3, c4⟩ := obj_cells5 hu.2); go_simp; try (with_reducible rfl))
  try simp only [Act.put, List.setIfInBounds_toArray, List.set_cons_zero, List.set_cons_succ]
  refine give_val (i := 10) (v := ?_) rfl (by kernel_rfl) (by kernel_rfl) (by kernel_rfl) (fun _ _ _ h => h) (by rfl) (fun u hu => ?_) hS ?_
  rotate_left
  · ((obtain ⟨c0, c1, c2, c3, c4⟩ := obj_cells5 hu.2); go_simp; try (with_reducible rfl))
  try simp only [Act.put, List.setIfInBounds_toArray, List.set_cons_zero, List.set_cons_succ]
  refine give_val (i := 11) (v := ?_) rfl (by kernel_rfl) (by kernel_rfl) (by kernel_rfl) (fun _ _ _ h => h) (by rfl) (fun u hu => ?_) hS ?_
  rotate_left
  · ((obtain ⟨c0, c1, c2, c3, c4⟩ := obj_cells5 hu.2); go_simp; try (with_reducible rfl))
  try simp only [Act.put, List.setIfInBounds_toArray, List.set_cons_zero, List.set_cons_succ]
  refine give_val (i := 12) (v := ?_) rfl (by kernel_rfl) (by kernel_rfl) (by kernel_rfl) (fun _ _ _ h => h) (by rfl) (fun u hu => ?_) hS ?_
  rotate_left
  · ((obtain ⟨c0, c1, c2, c3, c4⟩ := obj_cells5 hu.2); go_simp; try (with_reducible rfl))
  try simp only [Act.put, List.setIfInBounds_toArray, List.set_cons_zero, List.set_cons_succ]
  refine give_val (i := 13) (v := ?_) rfl (by kernel_rfl) (by kernel_rfl) (by kernel_rfl) (fun _ _ _ h => h) (by rfl) (fun u hu => ?_) hS ?_
  rotate_left
  · ((obtain ⟨c0, c1, c2, c3, c4⟩ := obj_cells5 hu.2); go_simp; try (with_reducible rfl))
  try simp only [Act.put, List.setIfInBounds_toArray, List.set_cons_zero, List.set_cons_succ]
  refine wpAnyH_done (by kernel_rfl) (NoPanic.normal ?_) _
  have HB3 := Lib.hid hS.1
  have HO3 := Lib.hid hS.2
  clear hS
  obtain ⟨c0, c1, c2, c3, c4⟩ := obj_cells5 HO3.out
  go_wp2_with fail
  refine (HV.out _ (HW.out.below HB3.out)).mono ?_
  rintro e w4 ⟨rfl, hb4⟩
  have HB4 := Lib.hid (hbt HB3.out hb4)
  have HO4 := Lib.hid (obj_below HO3.out hb4)
  clear hb4 c0 c1 c2 c3 c4
  obtain ⟨c0, c1, c2, c3, c4⟩ := obj_cells5 HO4.out
  go_wp2
  go_ret3
  exact ⟨rfl, HB4.out⟩
set_option linter.unusedVariables false in
set_option maxRecDepth 100000 in
set_option maxHeartbeats 1600000 in
theorem cgw_ok (st n c f lo hi : Int) (p : Nat) (s : ByteArray) (w : World) (hst : st = 1 ∨ st = 2) (hk : spk n c f lo hi = 0) (hs : s.size ≤ 1000000) (hp : p ≤ s.size) (a q z : Nat) (hq : q ≤ 1000000) (hzb : z ≤ 2000) (h : q + z ≤ s.size) (t : ByteArray) (hw : Kinds w)
    (hl : ∀ W, Calls Tryd.prog 77 #[.int .i64 st, .agg #[.int .i64 n, .int .i64 c, .int .i64 f, .int .i64 lo, .int .i64 hi], .string s, .int .i64 (p : Int)] W fun e w' => e = .returned (.tuple #[.int .i64 (a : Int), .int .i64 (q : Int), .int .i64 0]) ∧ Below W.heap.size W w')
    (hz : ∀ W, Calls Tryd.prog 78 #[.int .i64 st, .int .i64 c, .int .i64 (a : Int)] W fun e w' => e = .returned (.int .i64 (z : Int)) ∧ W = w')
    (hr : ∀ W, Calls Tryd.prog 79 #[.int .i64 st, .int .i64 c, .string (s.extract q (q + z)), .int .i64 (a : Int)] W fun e w' => e = .returned (.tuple #[.string t, .int .i64 0]) ∧ Below W.heap.size W w')
    (hv : ∀ W, Kinds W → Calls Tryd.prog 65 #[.agg #[.int .i64 n, .int .i64 c, .int .i64 f, .int .i64 lo, .int .i64 hi], .string t] W fun e w' => e = .returned (.int .i64 0) ∧ Below W.heap.size W w') :
    Calls Tryd.prog 47 #[.int .i64 st, .agg #[.int .i64 n, .int .i64 c, .int .i64 f, .int .i64 lo, .int .i64 hi], .string s, .int .i64 (p : Int)] w fun e w' => e = .returned (.tuple #[.string t, .int .i64 ((q + z : Nat) : Int), .int .i64 0]) ∧ Below w.heap.size w w' := by
  have HK := Lib.hid (cknown_yes st hst)
  have HC := Lib.hid (fun W => spcheck_any n c f lo hi W)
  rw [hk] at HC
  have t1 : decide ((p : Int) < 0) = false := by simp
  have t2 : decide (s.size < p) = false := by simp; omega
  have HL := Lib.hid hl
  have HZ := Lib.hid hz
  have HR := Lib.hid hr
  have HV := Lib.hid hv
  have HW := Lib.hid hw
  clear hl hz hr hv hw hst hk hp
  go_enter Tryd.func47, Tryd.ntmps47
  go_wp2_with fail
  refine (HK.out _).mono ?_
  rintro e w0 ⟨rfl, rfl⟩
  go_wp2_with fail
  refine (HC.out _).mono ?_
  rintro e w1 ⟨rfl, hb1⟩
  have HB1 := Lib.hid (hbt (below_al _ _) hb1)
  have HO1 := Lib.hid (spec_at hb1)
  obtain ⟨c0, c1, c2, c3, c4⟩ := obj_cells5 HO1.out
  clear hb1
  go_wp2_with fail
  refine (HL.out _).mono ?_
  rintro e w2 ⟨rfl, hb2⟩
  have HB2 := Lib.hid (hbt HB1.out hb2)
  have HO2 := Lib.hid (obj_below HO1.out hb2)
  clear hb2 c0 c1 c2 c3 c4
  obtain ⟨c0, c1, c2, c3, c4⟩ := obj_cells5 HO2.out
  go_wp2_with fail
  refine (HZ.out _).mono ?_
  rintro e w9 ⟨rfl, rfl⟩
  go_wp2_with fail
  have HS := Lib.hid (show Spec1 w n c f lo hi _ from ⟨HB2.out, HO2.out⟩)
  clear c0 c1 c2 c3 c4
  refine wp_region_noPanic ?_
  refine wp_region_held_drew (S := (Spec1 w n c f lo hi)) (by kernel_rfl) (HS.out.drew) (fun hS => ?_)
  refine give_val (i := 0) (v := ?_) rfl (by kernel_rfl) (by kernel_rfl) (by kernel_rfl) (fun _ _ _ h => h) (by rfl) (fun u hu => ?_) hS ?_
  rotate_left
  · ((obtain ⟨c0, c1, c2, c3, c4⟩ := obj_cells5 hu.2); go_simp; try (with_reducible rfl))
  try simp only [Act.put, List.setIfInBounds_toArray, List.set_cons_zero, List.set_cons_succ]
  refine give_val (i := 1) (v := ?_) rfl (by kernel_rfl) (by kernel_rfl) (by kernel_rfl) (fun _ _ _ h => h) (by rfl) (fun u hu => ?_) hS ?_
  rotate_left
  · ((obtain ⟨c0, c1, c2, c3, c4⟩ := obj_cells5 hu.2); go_simp; try (with_reducible rfl))
  try simp only [Act.put, List.setIfInBounds_toArray, List.set_cons_zero, List.set_cons_succ]
  refine give_val (i := 2) (v := ?_) rfl (by kernel_rfl) (by kernel_rfl) (by kernel_rfl) (fun _ _ _ h => h) (by rfl) (fun u hu => ?_) hS ?_
  rotate_left
  · ((obtain ⟨c0, c1, c2, c3, c4⟩ := obj_cells5 hu.2); go_simp; try (with_reducible rfl))
  try simp only [Act.put, List.setIfInBounds_toArray, List.set_cons_zero, List.set_cons_succ]
  refine give_val (i := 3) (v := ?_) rfl (by kernel_rfl) (by kernel_rfl) (by kernel_rfl) (fun _ _ _ h => h) (by rfl) (fun u hu => ?_) hS ?_
  rotate_left
  · ((obtain ⟨c0, c1, c2, c3, c4⟩ := obj_cells5 hu.2); go_simp; try (with_reducible rfl))
  try simp only [Act.put, List.setIfInBounds_toArray, List.set_cons_zero, List.set_cons_succ]
  refine give_val (i := 4) (v := ?_) rfl (by kernel_rfl) (by kernel_rfl) (by kernel_rfl) (fun _ _ _ h => h) (by rfl) (fun u hu => ?_) hS ?_
  rotate_left
  · ((obtain ⟨c0, c1, c2, c3, c4⟩ := obj_cells5 hu.2); go_simp; try (with_reducible rfl))
  try simp only [Act.put, List.setIfInBounds_toArray, List.set_cons_zero, List.set_cons_succ]
  refine give_val (i := 5) (v := ?_) rfl (by kernel_rfl) (by kernel_rfl) (by kernel_rfl) (fun _ _ _ h => h) (by rfl) (fun u hu => ?_) hS ?_
  rotate_left
  · ((obtain ⟨c0, c1, c2, c3, c4⟩ := obj_cells5 hu.2); go_simp; try (with_reducible rfl))
  try simp only [Act.put, List.setIfInBounds_toArray, List.set_cons_zero, List.set_cons_succ]
  refine give_val (i := 6) (v := (.string (s.extract q (q + z)))) rfl (by kernel_rfl) (by kernel_rfl) (by kernel_rfl) (fun _ _ _ h => h) (by rfl) (fun u hu => ?_) hS ?_
  · ((obtain ⟨c0, c1, c2, c3, c4⟩ := obj_cells5 hu.2); go_simp; rw [if_pos (by omega), if_pos (by omega), show ((q : Int) + (z : Int)).toNat = q + z from by omega])
  try simp only [Act.put, List.setIfInBounds_toArray, List.set_cons_zero, List.set_cons_succ]
  refine give_val (i := 7) (v := ?_) rfl (by kernel_rfl) (by kernel_rfl) (by kernel_rfl) (fun _ _ _ h => h) (by rfl) (fun u hu => ?_) hS ?_
  rotate_left
  · ((obtain ⟨c0, c1, c2, c3, c4⟩ := obj_cells5 hu.2); go_simp; try (with_reducible rfl))
  try simp only [Act.put, List.setIfInBounds_toArray, List.set_cons_zero, List.set_cons_succ]
  refine only_call (i := 8) 79 #[.int .i64 st, .int .i64 c, .string (s.extract q (q + z)), .int .i64 (a : Int)] rfl (by kernel_rfl) (by rfl) ((HR.out _).mono fun e w' he => ⟨he.1, hS.below he.2⟩) ?_ ?_
  · (go_simp; try (with_reducible rfl))
  clear hS
  intro w8 hS
  try simp only [Act.put, List.setIfInBounds_toArray, List.set_cons_zero, List.set_cons_succ]
  refine give_val (i := 9) (v := ?_) rfl (by kernel_rfl) (by kernel_rfl) (by kernel_rfl) (fun _ _ _ h => h) (by rfl) (fun u hu => ?_) hS ?_
  rotate_left
  · ((obtain ⟨c0, c1, c2, c3, c4⟩ := obj_cells5 hu.2); go_simp; try (with_reducible rfl))
  try simp only [Act.put, List.setIfInBounds_toArray, List.set_cons_zero, List.set_cons_succ]
  refine give_val (i := 10) (v := ?_) rfl (by kernel_rfl) (by kernel_rfl) (by kernel_rfl) (fun _ _ _ h => h) (by rfl) (fun u hu => ?_) hS ?_
  rotate_left
  · ((obtain ⟨c0, c1, c2, c3, c4⟩ := obj_cells5 hu.2); go_simp; try (with_reducible rfl))
  try simp only [Act.put, List.setIfInBounds_toArray, List.set_cons_zero, List.set_cons_succ]
  refine give_val (i := 11) (v := ?_) rfl (by kernel_rfl) (by kernel_rfl) (by kernel_rfl) (fun _ _ _ h => h) (by rfl) (fun u hu => ?_) hS ?_
  rotate_left
  · ((obtain ⟨c0, c1, c2, c3, c4⟩ := obj_cells5 hu.2); go_simp; try (with_reducible rfl))
  try simp only [Act.put, List.setIfInBounds_toArray, List.set_cons_zero, List.set_cons_succ]
  refine give_val (i := 12) (v := ?_) rfl (by kernel_rfl) (by kernel_rfl) (by kernel_rfl) (fun _ _ _ h => h) (by rfl) (fun u hu => ?_) hS ?_
  rotate_left
  · ((obtain ⟨c0, c1, c2, c3, c4⟩ := obj_cells5 hu.2); go_simp; try (with_reducible rfl))
  try simp only [Act.put, List.setIfInBounds_toArray, List.set_cons_zero, List.set_cons_succ]
  refine give_val (i := 13) (v := ?_) rfl (by kernel_rfl) (by kernel_rfl) (by kernel_rfl) (fun _ _ _ h => h) (by rfl) (fun u hu => ?_) hS ?_
  rotate_left
  · ((obtain ⟨c0, c1, c2, c3, c4⟩ := obj_cells5 hu.2); go_simp; try (with_reducible rfl))
  try simp only [Act.put, List.setIfInBounds_toArray, List.set_cons_zero, List.set_cons_succ]
  refine wpAnyH_done (by kernel_rfl) (NoPanic.normal ?_) _
  have HB3 := Lib.hid hS.1
  have HO3 := Lib.hid hS.2
  clear hS
  obtain ⟨c0, c1, c2, c3, c4⟩ := obj_cells5 HO3.out
  go_wp2_with fail
  refine (HV.out _ (HW.out.below HB3.out)).mono ?_
  rintro e w4 ⟨rfl, hb4⟩
  have HB4 := Lib.hid (hbt HB3.out hb4)
  have HO4 := Lib.hid (obj_below HO3.out hb4)
  clear hb4 c0 c1 c2 c3 c4
  obtain ⟨c0, c1, c2, c3, c4⟩ := obj_cells5 HO4.out
  go_wp2
  go_ret3
  exact ⟨rfl, HB4.out⟩

def cgetV (r : ByteArray × Nat × Int) : Value := .tuple #[.string r.1, .int .i64 (r.2.1 : Int), .int .i64 r.2.2]

theorem clen_in {st : Nat} {n c f lo hi : Int} {l : List UInt8} {p a q : Nat} (hk : spk n c f lo hi = 0) (hp : p ≤ l.length) (h : clen st f lo hi l p = (a, q, 0)) : a ≤ 999 ∧ q ≤ l.length := by
  obtain ⟨_, k1, k2, k3⟩ := spk_in hk
  by_cases hf : f = 1
  · subst hf
    rw [clen_fixed] at h
    obtain ⟨h1, h2⟩ := Prod.mk.inj h
    obtain ⟨h3, _⟩ := Prod.mk.inj h2
    omega
  · by_cases h0 : (pget st f.toNat l p).2.2 = 0
    · by_cases h1 : ((pget st f.toNat l p).1 : Int) < lo ∨ hi < ((pget st f.toNat l p).1 : Int)
      · rw [clen_range hf h0 h1] at h
        cases h
      · rw [clen_ok hf h0 h1] at h
        obtain ⟨g1, g2, _⟩ := pget_zero h0
        rw [h] at h1 g2
        dsimp only at h1 g2
        omega
    · rw [clen_err hf h0] at h
      exact absurd (Prod.mk.inj (Prod.mk.inj h).2).2 h0

/-- What Get answers at a place of a text. -/
theorem cget_any (st p : Nat) (n c f lo hi : Int) (s : ByteArray) (w : World) (hw : Kinds w) (hst : st = 1 ∨ st = 2) (hk : spk n c f lo hi = 0) (hs : s.size ≤ 1000000) (hp : p ≤ s.size) :
    Calls Tryd.prog 47 #[.int .i64 (st : Int), .agg #[.int .i64 n, .int .i64 c, .int .i64 f, .int .i64 lo, .int .i64 hi], .string s, .int .i64 (p : Int)] w fun e w' => e = .returned (cgetV (cget st n c f lo hi s p)) ∧ Below w.heap.size w w' := by
  have hst' : (st : Int) = 1 ∨ (st : Int) = 2 := by omega
  have hl := fun W => clength_any st p n c f lo hi s W hst hk hs hp
  unfold pgetV at hl
  obtain ⟨a, q, x, h1, g⟩ := cget_cases st n c f lo hi s p
  rw [h1] at hl
  rcases g with hx | ⟨rfl, g⟩
  · rw [cget_len h1 hx]
    exact cgw_len (st : Int) n c f lo hi p s w hst' hk hs hp a q x hx hl
  obtain ⟨ha, hq⟩ := clen_in hk (by rw [list_size]; exact hp) h1
  rw [list_size] at hq
  have hzz := csz_le (cway st c) a
  have hz := fun W => csize_any st a c W hst (by omega)
  rcases g with h2 | ⟨h2, t, y, h3, g⟩
  · rw [cget_cut h1 h2]
    exact cgw_cut (st : Int) n c f lo hi p s w hst' hk hs hp a q _ (by omega) (by omega) h2 hl hz
  have hxs : (s.extract q (q + csz (cway st c) a)).size = csz (cway st c) a := by simp; omega
  have hr := fun W => cread_any st a c (s.extract q (q + csz (cway st c) a)) W hst (by omega)
  rw [h3] at hr
  rcases g with hy | ⟨rfl, g⟩
  · rw [cget_read h1 h2 h3 hy]
    exact cgw_read (st : Int) n c f lo hi p s w hst' hk hs hp a q _ (by omega) (by omega) h2 t y hy hl hz hr
  have ht := (cread_spell hxs h3).1
  have hv := fun W hW => spvalue_any n c f lo hi t W hW (by unfold maxLen; omega)
  rcases g with h4 | h4
  · rw [cget_val h1 h2 h3 h4]
    exact cgw_val (st : Int) n c f lo hi p s w hst' hk hs hp a q _ (by omega) (by omega) h2 t _ h4 hw hl hz hr hv
  · rw [cget_ok h1 h2 h3 h4]
    rw [h4] at hv
    exact cgw_ok (st : Int) n c f lo hi p s w hst' hk hs hp a q _ (by omega) (by omega) h2 t hw hl hz hr hv

end Go.Proofs.YtlkpiapmdflahaaDoor

/-
  What the document's Get answers, where the form is fixed.
-/
namespace Go.Proofs.YtlkpiapmdflahaaDoor
open Go.RowKit

set_option linter.unusedVariables false in
set_option maxRecDepth 100000 in
set_option maxHeartbeats 1600000 in
theorem crg_xa_cut (n c lo : Int) (p a z : Nat) (s : ByteArray) (w : World)
    (hs : s.size ≤ 1000000) (hp : p ≤ s.size) (ha : a ≤ 999)
    (hc : decide (5 ≤ c) = true)
    (hzq : (a : Int) + (a : Int) = (z : Int))
    (hk : ∀ W, Calls Tryd.prog 51 #[.agg #[.int .i64 n, .int .i64 c, .int .i64 1, .int .i64 lo, .int .i64 (a : Int)]] W fun e w' => e = .returned (.int .i64 0) ∧ Below W.heap.size W w')
    (h : s.size < p + z) :
    Calls Tryd.prog 26 #[.int .i64 1, .agg #[.int .i64 n, .int .i64 c, .int .i64 1, .int .i64 lo, .int .i64 (a : Int)], .string s, .int .i64 (p : Int)] w fun e w' => e = .returned (.tuple #[.string ⟨#[]⟩, .int .i64 0, .int .i64 2]) ∧ Below w.heap.size w w' := by
  have HK := Lib.hid hk
  have t1 : decide ((p : Int) < 0) = false := by simp
  have t2 : decide (s.size < p) = false := by simp; omega
  have hzb : z ≤ 2000 := by omega
  have t5 : decide ((s.size : Int) - (p : Int) < (z : Int)) = true := by simp; omega
  clear hk h
  go_enter Tryd.func26, Tryd.ntmps26
  go_wp2_with fail
  refine (HK.out _).mono ?_
  rintro e w1 ⟨rfl, hb1⟩
  have HB1 := Lib.hid (hbt (below_al _ _) hb1)
  have HO1 := Lib.hid (spec_at hb1)
  obtain ⟨c0, c1, c2, c3, c4⟩ := obj_cells5 HO1.out
  clear hb1
  go_wp2
  go_ret3
  exact ⟨rfl, HB1.out⟩
set_option linter.unusedVariables false in
set_option maxRecDepth 100000 in
set_option maxHeartbeats 1600000 in
theorem crg_xa_read (n c lo : Int) (p a z : Nat) (s : ByteArray) (w : World)
    (hs : s.size ≤ 1000000) (hp : p ≤ s.size) (ha : a ≤ 999)
    (hc : decide (5 ≤ c) = true)
    (hzq : (a : Int) + (a : Int) = (z : Int))
    (hk : ∀ W, Calls Tryd.prog 51 #[.agg #[.int .i64 n, .int .i64 c, .int .i64 1, .int .i64 lo, .int .i64 (a : Int)]] W fun e w' => e = .returned (.int .i64 0) ∧ Below W.heap.size W w')
    (h : p + z ≤ s.size)
    (t : ByteArray) (y : Int)
    (hr : ∀ W, Calls Tryd.prog 53 #[.string (s.extract p (p + z))] W fun e w' => e = .returned (.tuple #[.string t, .int .i64 y, .bool false]) ∧ Below W.heap.size W w') :
    Calls Tryd.prog 26 #[.int .i64 1, .agg #[.int .i64 n, .int .i64 c, .int .i64 1, .int .i64 lo, .int .i64 (a : Int)], .string s, .int .i64 (p : Int)] w fun e w' => e = .returned (.tuple #[.string ⟨#[]⟩, .int .i64 0, .int .i64 3]) ∧ Below w.heap.size w w' := by
  have HK := Lib.hid hk
  have t1 : decide ((p : Int) < 0) = false := by simp
  have t2 : decide (s.size < p) = false := by simp; omega
  have hzb : z ≤ 2000 := by omega
  have t5 : decide ((s.size : Int) - (p : Int) < (z : Int)) = false := by simp; omega
  have HR := Lib.hid hr
  clear hk hr
  go_enter Tryd.func26, Tryd.ntmps26
  go_wp2_with fail
  refine (HK.out _).mono ?_
  rintro e w1 ⟨rfl, hb1⟩
  have HB1 := Lib.hid (hbt (below_al _ _) hb1)
  have HO1 := Lib.hid (spec_at hb1)
  obtain ⟨c0, c1, c2, c3, c4⟩ := obj_cells5 HO1.out
  clear hb1
  go_wp2_with fail
  refine (HR.out _).mono ?_
  rintro e w2 ⟨rfl, hb2⟩
  have HB2 := Lib.hid (hbt HB1.out hb2)
  have HO2 := Lib.hid (obj_below HO1.out hb2)
  clear hb2 c0 c1 c2 c3 c4
  obtain ⟨c0, c1, c2, c3, c4⟩ := obj_cells5 HO2.out
  go_wp2
  go_ret3
  exact ⟨rfl, HB2.out⟩
set_option linter.unusedVariables false in
set_option maxRecDepth 100000 in
set_option maxHeartbeats 1600000 in
theorem crg_xa_val (n c lo : Int) (p a z : Nat) (s : ByteArray) (w : World)
    (hs : s.size ≤ 1000000) (hp : p ≤ s.size) (ha : a ≤ 999)
    (hc : decide (5 ≤ c) = true)
    (hzq : (a : Int) + (a : Int) = (z : Int))
    (hk : ∀ W, Calls Tryd.prog 51 #[.agg #[.int .i64 n, .int .i64 c, .int .i64 1, .int .i64 lo, .int .i64 (a : Int)]] W fun e w' => e = .returned (.int .i64 0) ∧ Below W.heap.size W w')
    (h : p + z ≤ s.size)
    (t : ByteArray) (y : Int)
    (hr : ∀ W, Calls Tryd.prog 53 #[.string (s.extract p (p + z))] W fun e w' => e = .returned (.tuple #[.string t, .int .i64 y, .bool true]) ∧ Below W.heap.size W w')
    (x : Int) (hx : (x != 0) = true)
    (hv : ∀ W, Calls Tryd.prog 54 #[.agg #[.int .i64 n, .int .i64 c, .int .i64 1, .int .i64 lo, .int .i64 (a : Int)], .string t] W fun e w' => e = .returned (.int .i64 x) ∧ Below W.heap.size W w') :
    Calls Tryd.prog 26 #[.int .i64 1, .agg #[.int .i64 n, .int .i64 c, .int .i64 1, .int .i64 lo, .int .i64 (a : Int)], .string s, .int .i64 (p : Int)] w fun e w' => e = .returned (.tuple #[.string ⟨#[]⟩, .int .i64 0, .int .i64 x]) ∧ Below w.heap.size w w' := by
  have HK := Lib.hid hk
  have t1 : decide ((p : Int) < 0) = false := by simp
  have t2 : decide (s.size < p) = false := by simp; omega
  have hzb : z ≤ 2000 := by omega
  have t5 : decide ((s.size : Int) - (p : Int) < (z : Int)) = false := by simp; omega
  have HR := Lib.hid hr
  have HV := Lib.hid hv
  clear hk hv hr
  go_enter Tryd.func26, Tryd.ntmps26
  go_wp2_with fail
  refine (HK.out _).mono ?_
  rintro e w1 ⟨rfl, hb1⟩
  have HB1 := Lib.hid (hbt (below_al _ _) hb1)
  have HO1 := Lib.hid (spec_at hb1)
  obtain ⟨c0, c1, c2, c3, c4⟩ := obj_cells5 HO1.out
  clear hb1
  go_wp2_with fail
  refine (HR.out _).mono ?_
  rintro e w2 ⟨rfl, hb2⟩
  have HB2 := Lib.hid (hbt HB1.out hb2)
  have HO2 := Lib.hid (obj_below HO1.out hb2)
  clear hb2 c0 c1 c2 c3 c4
  obtain ⟨c0, c1, c2, c3, c4⟩ := obj_cells5 HO2.out
  go_wp2_with fail
  refine (HV.out _).mono ?_
  rintro e w3 ⟨rfl, hb3⟩
  have HB3 := Lib.hid (hbt HB2.out hb3)
  have HO3 := Lib.hid (obj_below HO2.out hb3)
  clear hb3 c0 c1 c2 c3 c4
  obtain ⟨c0, c1, c2, c3, c4⟩ := obj_cells5 HO3.out
  go_wp2
  go_ret3
  exact ⟨rfl, HB3.out⟩
set_option linter.unusedVariables false in
set_option maxRecDepth 100000 in
set_option maxHeartbeats 1600000 in
theorem crg_xa_ok (n c lo : Int) (p a z : Nat) (s : ByteArray) (w : World)
    (hs : s.size ≤ 1000000) (hp : p ≤ s.size) (ha : a ≤ 999)
    (hc : decide (5 ≤ c) = true)
    (hzq : (a : Int) + (a : Int) = (z : Int))
    (hk : ∀ W, Calls Tryd.prog 51 #[.agg #[.int .i64 n, .int .i64 c, .int .i64 1, .int .i64 lo, .int .i64 (a : Int)]] W fun e w' => e = .returned (.int .i64 0) ∧ Below W.heap.size W w')
    (h : p + z ≤ s.size)
    (t : ByteArray) (y : Int)
    (hr : ∀ W, Calls Tryd.prog 53 #[.string (s.extract p (p + z))] W fun e w' => e = .returned (.tuple #[.string t, .int .i64 y, .bool true]) ∧ Below W.heap.size W w')
    (hv : ∀ W, Calls Tryd.prog 54 #[.agg #[.int .i64 n, .int .i64 c, .int .i64 1, .int .i64 lo, .int .i64 (a : Int)], .string t] W fun e w' => e = .returned (.int .i64 0) ∧ Below W.heap.size W w') :
    Calls Tryd.prog 26 #[.int .i64 1, .agg #[.int .i64 n, .int .i64 c, .int .i64 1, .int .i64 lo, .int .i64 (a : Int)], .string s, .int .i64 (p : Int)] w fun e w' => e = .returned (.tuple #[.string t, .int .i64 ((p + z : Nat) : Int), .int .i64 0]) ∧ Below w.heap.size w w' := by
  have HK := Lib.hid hk
  have t1 : decide ((p : Int) < 0) = false := by simp
  have t2 : decide (s.size < p) = false := by simp; omega
  have hzb : z ≤ 2000 := by omega
  have t5 : decide ((s.size : Int) - (p : Int) < (z : Int)) = false := by simp; omega
  have HR := Lib.hid hr
  have HV := Lib.hid hv
  clear hk hv hr
  go_enter Tryd.func26, Tryd.ntmps26
  go_wp2_with fail
  refine (HK.out _).mono ?_
  rintro e w1 ⟨rfl, hb1⟩
  have HB1 := Lib.hid (hbt (below_al _ _) hb1)
  have HO1 := Lib.hid (spec_at hb1)
  obtain ⟨c0, c1, c2, c3, c4⟩ := obj_cells5 HO1.out
  clear hb1
  go_wp2_with fail
  refine (HR.out _).mono ?_
  rintro e w2 ⟨rfl, hb2⟩
  have HB2 := Lib.hid (hbt HB1.out hb2)
  have HO2 := Lib.hid (obj_below HO1.out hb2)
  clear hb2 c0 c1 c2 c3 c4
  obtain ⟨c0, c1, c2, c3, c4⟩ := obj_cells5 HO2.out
  go_wp2_with fail
  refine (HV.out _).mono ?_
  rintro e w3 ⟨rfl, hb3⟩
  have HB3 := Lib.hid (hbt HB2.out hb3)
  have HO3 := Lib.hid (obj_below HO2.out hb3)
  clear hb3 c0 c1 c2 c3 c4
  obtain ⟨c0, c1, c2, c3, c4⟩ := obj_cells5 HO3.out
  go_wp2
  go_ret3
  exact ⟨rfl, HB3.out⟩
set_option linter.unusedVariables false in
set_option maxRecDepth 100000 in
set_option maxHeartbeats 1600000 in
theorem crg_xb_cut (n c lo : Int) (p a : Nat) (s : ByteArray) (w : World)
    (hs : s.size ≤ 1000000) (hp : p ≤ s.size) (ha : a ≤ 999)
    (hc : decide (5 ≤ c) = false)
    (hk : ∀ W, Calls Tryd.prog 51 #[.agg #[.int .i64 n, .int .i64 c, .int .i64 1, .int .i64 lo, .int .i64 (a : Int)]] W fun e w' => e = .returned (.int .i64 0) ∧ Below W.heap.size W w')
    (h : s.size < p + a) :
    Calls Tryd.prog 26 #[.int .i64 1, .agg #[.int .i64 n, .int .i64 c, .int .i64 1, .int .i64 lo, .int .i64 (a : Int)], .string s, .int .i64 (p : Int)] w fun e w' => e = .returned (.tuple #[.string ⟨#[]⟩, .int .i64 0, .int .i64 2]) ∧ Below w.heap.size w w' := by
  have HK := Lib.hid hk
  have t1 : decide ((p : Int) < 0) = false := by simp
  have t2 : decide (s.size < p) = false := by simp; omega
  have t5 : decide ((s.size : Int) - (p : Int) < (a : Int)) = true := by simp; omega
  clear hk h
  go_enter Tryd.func26, Tryd.ntmps26
  go_wp2_with fail
  refine (HK.out _).mono ?_
  rintro e w1 ⟨rfl, hb1⟩
  have HB1 := Lib.hid (hbt (below_al _ _) hb1)
  have HO1 := Lib.hid (spec_at hb1)
  obtain ⟨c0, c1, c2, c3, c4⟩ := obj_cells5 HO1.out
  clear hb1
  go_wp2
  go_ret3
  exact ⟨rfl, HB1.out⟩
set_option linter.unusedVariables false in
set_option maxRecDepth 100000 in
set_option maxHeartbeats 1600000 in
theorem crg_xb_val (n c lo : Int) (p a : Nat) (s : ByteArray) (w : World)
    (hs : s.size ≤ 1000000) (hp : p ≤ s.size) (ha : a ≤ 999)
    (hc : decide (5 ≤ c) = false)
    (hk : ∀ W, Calls Tryd.prog 51 #[.agg #[.int .i64 n, .int .i64 c, .int .i64 1, .int .i64 lo, .int .i64 (a : Int)]] W fun e w' => e = .returned (.int .i64 0) ∧ Below W.heap.size W w')
    (h : p + a ≤ s.size)
    (x : Int) (hx : (x != 0) = true)
    (hv : ∀ W, Calls Tryd.prog 54 #[.agg #[.int .i64 n, .int .i64 c, .int .i64 1, .int .i64 lo, .int .i64 (a : Int)], .string (s.extract p (p + a))] W fun e w' => e = .returned (.int .i64 x) ∧ Below W.heap.size W w') :
    Calls Tryd.prog 26 #[.int .i64 1, .agg #[.int .i64 n, .int .i64 c, .int .i64 1, .int .i64 lo, .int .i64 (a : Int)], .string s, .int .i64 (p : Int)] w fun e w' => e = .returned (.tuple #[.string ⟨#[]⟩, .int .i64 0, .int .i64 x]) ∧ Below w.heap.size w w' := by
  have HK := Lib.hid hk
  have t1 : decide ((p : Int) < 0) = false := by simp
  have t2 : decide (s.size < p) = false := by simp; omega
  have t5 : decide ((s.size : Int) - (p : Int) < (a : Int)) = false := by simp; omega
  have HV := Lib.hid hv
  clear hk hv
  go_enter Tryd.func26, Tryd.ntmps26
  go_wp2_with fail
  refine (HK.out _).mono ?_
  rintro e w1 ⟨rfl, hb1⟩
  have HB1 := Lib.hid (hbt (below_al _ _) hb1)
  have HO1 := Lib.hid (spec_at hb1)
  obtain ⟨c0, c1, c2, c3, c4⟩ := obj_cells5 HO1.out
  clear hb1
  go_wp2_with fail
  refine (HV.out _).mono ?_
  rintro e w2 ⟨rfl, hb2⟩
  have HB2 := Lib.hid (hbt HB1.out hb2)
  have HO2 := Lib.hid (obj_below HO1.out hb2)
  clear hb2 c0 c1 c2 c3 c4
  obtain ⟨c0, c1, c2, c3, c4⟩ := obj_cells5 HO2.out
  go_wp2
  go_ret3
  exact ⟨rfl, HB2.out⟩
set_option linter.unusedVariables false in
set_option maxRecDepth 100000 in
set_option maxHeartbeats 1600000 in
theorem crg_xb_ok (n c lo : Int) (p a : Nat) (s : ByteArray) (w : World)
    (hs : s.size ≤ 1000000) (hp : p ≤ s.size) (ha : a ≤ 999)
    (hc : decide (5 ≤ c) = false)
    (hk : ∀ W, Calls Tryd.prog 51 #[.agg #[.int .i64 n, .int .i64 c, .int .i64 1, .int .i64 lo, .int .i64 (a : Int)]] W fun e w' => e = .returned (.int .i64 0) ∧ Below W.heap.size W w')
    (h : p + a ≤ s.size)
    (hv : ∀ W, Calls Tryd.prog 54 #[.agg #[.int .i64 n, .int .i64 c, .int .i64 1, .int .i64 lo, .int .i64 (a : Int)], .string (s.extract p (p + a))] W fun e w' => e = .returned (.int .i64 0) ∧ Below W.heap.size W w') :
    Calls Tryd.prog 26 #[.int .i64 1, .agg #[.int .i64 n, .int .i64 c, .int .i64 1, .int .i64 lo, .int .i64 (a : Int)], .string s, .int .i64 (p : Int)] w fun e w' => e = .returned (.tuple #[.string (s.extract p (p + a)), .int .i64 ((p + a : Nat) : Int), .int .i64 0]) ∧ Below w.heap.size w w' := by
  have HK := Lib.hid hk
  have t1 : decide ((p : Int) < 0) = false := by simp
  have t2 : decide (s.size < p) = false := by simp; omega
  have t5 : decide ((s.size : Int) - (p : Int) < (a : Int)) = false := by simp; omega
  have HV := Lib.hid hv
  clear hk hv
  go_enter Tryd.func26, Tryd.ntmps26
  go_wp2_with fail
  refine (HK.out _).mono ?_
  rintro e w1 ⟨rfl, hb1⟩
  have HB1 := Lib.hid (hbt (below_al _ _) hb1)
  have HO1 := Lib.hid (spec_at hb1)
  obtain ⟨c0, c1, c2, c3, c4⟩ := obj_cells5 HO1.out
  clear hb1
  go_wp2_with fail
  refine (HV.out _).mono ?_
  rintro e w2 ⟨rfl, hb2⟩
  have HB2 := Lib.hid (hbt HB1.out hb2)
  have HO2 := Lib.hid (obj_below HO1.out hb2)
  clear hb2 c0 c1 c2 c3 c4
  obtain ⟨c0, c1, c2, c3, c4⟩ := obj_cells5 HO2.out
  go_wp2
  go_ret3
  exact ⟨rfl, HB2.out⟩
set_option linter.unusedVariables false in
set_option maxRecDepth 100000 in
set_option maxHeartbeats 1600000 in
theorem crg_xc_cut (n lo : Int) (p a z : Nat) (s : ByteArray) (w : World)
    (hs : s.size ≤ 1000000) (hp : p ≤ s.size) (ha : a ≤ 999)
    (hzq : ((a : Int) + 1) / 2 = (z : Int))
    (hk : ∀ W, Calls Tryd.prog 51 #[.agg #[.int .i64 n, .int .i64 1, .int .i64 1, .int .i64 lo, .int .i64 (a : Int)]] W fun e w' => e = .returned (.int .i64 0) ∧ Below W.heap.size W w')
    (h : s.size < p + z) :
    Calls Tryd.prog 26 #[.int .i64 2, .agg #[.int .i64 n, .int .i64 1, .int .i64 1, .int .i64 lo, .int .i64 (a : Int)], .string s, .int .i64 (p : Int)] w fun e w' => e = .returned (.tuple #[.string ⟨#[]⟩, .int .i64 0, .int .i64 2]) ∧ Below w.heap.size w w' := by
  have HK := Lib.hid hk
  have t1 : decide ((p : Int) < 0) = false := by simp
  have t2 : decide (s.size < p) = false := by simp; omega
  have hzb : z ≤ 2000 := by omega
  have t5 : decide ((s.size : Int) - (p : Int) < (z : Int)) = true := by simp; omega
  clear hk h
  go_enter Tryd.func26, Tryd.ntmps26
  go_wp2_with fail
  refine (HK.out _).mono ?_
  rintro e w1 ⟨rfl, hb1⟩
  have HB1 := Lib.hid (hbt (below_al _ _) hb1)
  have HO1 := Lib.hid (spec_at hb1)
  obtain ⟨c0, c1, c2, c3, c4⟩ := obj_cells5 HO1.out
  clear hb1
  go_wp2
  go_ret3
  exact ⟨rfl, HB1.out⟩
set_option linter.unusedVariables false in
set_option maxRecDepth 100000 in
set_option maxHeartbeats 1600000 in
theorem crg_xc_read (n lo : Int) (p a z : Nat) (s : ByteArray) (w : World)
    (hs : s.size ≤ 1000000) (hp : p ≤ s.size) (ha : a ≤ 999)
    (hzq : ((a : Int) + 1) / 2 = (z : Int))
    (hk : ∀ W, Calls Tryd.prog 51 #[.agg #[.int .i64 n, .int .i64 1, .int .i64 1, .int .i64 lo, .int .i64 (a : Int)]] W fun e w' => e = .returned (.int .i64 0) ∧ Below W.heap.size W w')
    (h : p + z ≤ s.size)
    (t : ByteArray) (y x : Int) (hx : (x != 0) = true)
    (hr : ∀ W, Calls Tryd.prog 22 #[.string (s.extract p (p + z)), .int .i64 (a : Int)] W fun e w' => e = .returned (.tuple #[.string t, .int .i64 x, .int .i64 y]) ∧ Below W.heap.size W w') :
    Calls Tryd.prog 26 #[.int .i64 2, .agg #[.int .i64 n, .int .i64 1, .int .i64 1, .int .i64 lo, .int .i64 (a : Int)], .string s, .int .i64 (p : Int)] w fun e w' => e = .returned (.tuple #[.string ⟨#[]⟩, .int .i64 0, .int .i64 x]) ∧ Below w.heap.size w w' := by
  have HK := Lib.hid hk
  have t1 : decide ((p : Int) < 0) = false := by simp
  have t2 : decide (s.size < p) = false := by simp; omega
  have hzb : z ≤ 2000 := by omega
  have t5 : decide ((s.size : Int) - (p : Int) < (z : Int)) = false := by simp; omega
  have HR := Lib.hid hr
  clear hk hr
  go_enter Tryd.func26, Tryd.ntmps26
  go_wp2_with fail
  refine (HK.out _).mono ?_
  rintro e w1 ⟨rfl, hb1⟩
  have HB1 := Lib.hid (hbt (below_al _ _) hb1)
  have HO1 := Lib.hid (spec_at hb1)
  obtain ⟨c0, c1, c2, c3, c4⟩ := obj_cells5 HO1.out
  clear hb1
  go_wp2_with fail
  refine (HR.out _).mono ?_
  rintro e w2 ⟨rfl, hb2⟩
  have HB2 := Lib.hid (hbt HB1.out hb2)
  have HO2 := Lib.hid (obj_below HO1.out hb2)
  clear hb2 c0 c1 c2 c3 c4
  obtain ⟨c0, c1, c2, c3, c4⟩ := obj_cells5 HO2.out
  go_wp2
  go_ret3
  exact ⟨rfl, HB2.out⟩
set_option linter.unusedVariables false in
set_option maxRecDepth 100000 in
set_option maxHeartbeats 1600000 in
theorem crg_xc_val (n lo : Int) (p a z : Nat) (s : ByteArray) (w : World)
    (hs : s.size ≤ 1000000) (hp : p ≤ s.size) (ha : a ≤ 999)
    (hzq : ((a : Int) + 1) / 2 = (z : Int))
    (hk : ∀ W, Calls Tryd.prog 51 #[.agg #[.int .i64 n, .int .i64 1, .int .i64 1, .int .i64 lo, .int .i64 (a : Int)]] W fun e w' => e = .returned (.int .i64 0) ∧ Below W.heap.size W w')
    (h : p + z ≤ s.size)
    (t : ByteArray) (y : Int)
    (hr : ∀ W, Calls Tryd.prog 22 #[.string (s.extract p (p + z)), .int .i64 (a : Int)] W fun e w' => e = .returned (.tuple #[.string t, .int .i64 0, .int .i64 y]) ∧ Below W.heap.size W w')
    (x : Int) (hx : (x != 0) = true)
    (hv : ∀ W, Calls Tryd.prog 54 #[.agg #[.int .i64 n, .int .i64 1, .int .i64 1, .int .i64 lo, .int .i64 (a : Int)], .string t] W fun e w' => e = .returned (.int .i64 x) ∧ Below W.heap.size W w') :
    Calls Tryd.prog 26 #[.int .i64 2, .agg #[.int .i64 n, .int .i64 1, .int .i64 1, .int .i64 lo, .int .i64 (a : Int)], .string s, .int .i64 (p : Int)] w fun e w' => e = .returned (.tuple #[.string ⟨#[]⟩, .int .i64 0, .int .i64 x]) ∧ Below w.heap.size w w' := by
  have HK := Lib.hid hk
  have t1 : decide ((p : Int) < 0) = false := by simp
  have t2 : decide (s.size < p) = false := by simp; omega
  have hzb : z ≤ 2000 := by omega
  have t5 : decide ((s.size : Int) - (p : Int) < (z : Int)) = false := by simp; omega
  have HR := Lib.hid hr
  have HV := Lib.hid hv
  clear hk hv hr
  go_enter Tryd.func26, Tryd.ntmps26
  go_wp2_with fail
  refine (HK.out _).mono ?_
  rintro e w1 ⟨rfl, hb1⟩
  have HB1 := Lib.hid (hbt (below_al _ _) hb1)
  have HO1 := Lib.hid (spec_at hb1)
  obtain ⟨c0, c1, c2, c3, c4⟩ := obj_cells5 HO1.out
  clear hb1
  go_wp2_with fail
  refine (HR.out _).mono ?_
  rintro e w2 ⟨rfl, hb2⟩
  have HB2 := Lib.hid (hbt HB1.out hb2)
  have HO2 := Lib.hid (obj_below HO1.out hb2)
  clear hb2 c0 c1 c2 c3 c4
  obtain ⟨c0, c1, c2, c3, c4⟩ := obj_cells5 HO2.out
  go_wp2_with fail
  refine (HV.out _).mono ?_
  rintro e w3 ⟨rfl, hb3⟩
  have HB3 := Lib.hid (hbt HB2.out hb3)
  have HO3 := Lib.hid (obj_below HO2.out hb3)
  clear hb3 c0 c1 c2 c3 c4
  obtain ⟨c0, c1, c2, c3, c4⟩ := obj_cells5 HO3.out
  go_wp2
  go_ret3
  exact ⟨rfl, HB3.out⟩
set_option linter.unusedVariables false in
set_option maxRecDepth 100000 in
set_option maxHeartbeats 1600000 in
theorem crg_xc_ok (n lo : Int) (p a z : Nat) (s : ByteArray) (w : World)
    (hs : s.size ≤ 1000000) (hp : p ≤ s.size) (ha : a ≤ 999)
    (hzq : ((a : Int) + 1) / 2 = (z : Int))
    (hk : ∀ W, Calls Tryd.prog 51 #[.agg #[.int .i64 n, .int .i64 1, .int .i64 1, .int .i64 lo, .int .i64 (a : Int)]] W fun e w' => e = .returned (.int .i64 0) ∧ Below W.heap.size W w')
    (h : p + z ≤ s.size)
    (t : ByteArray) (y : Int)
    (hr : ∀ W, Calls Tryd.prog 22 #[.string (s.extract p (p + z)), .int .i64 (a : Int)] W fun e w' => e = .returned (.tuple #[.string t, .int .i64 0, .int .i64 y]) ∧ Below W.heap.size W w')
    (hv : ∀ W, Calls Tryd.prog 54 #[.agg #[.int .i64 n, .int .i64 1, .int .i64 1, .int .i64 lo, .int .i64 (a : Int)], .string t] W fun e w' => e = .returned (.int .i64 0) ∧ Below W.heap.size W w') :
    Calls Tryd.prog 26 #[.int .i64 2, .agg #[.int .i64 n, .int .i64 1, .int .i64 1, .int .i64 lo, .int .i64 (a : Int)], .string s, .int .i64 (p : Int)] w fun e w' => e = .returned (.tuple #[.string t, .int .i64 ((p + z : Nat) : Int), .int .i64 0]) ∧ Below w.heap.size w w' := by
  have HK := Lib.hid hk
  have t1 : decide ((p : Int) < 0) = false := by simp
  have t2 : decide (s.size < p) = false := by simp; omega
  have hzb : z ≤ 2000 := by omega
  have t5 : decide ((s.size : Int) - (p : Int) < (z : Int)) = false := by simp; omega
  have HR := Lib.hid hr
  have HV := Lib.hid hv
  clear hk hv hr
  go_enter Tryd.func26, Tryd.ntmps26
  go_wp2_with fail
  refine (HK.out _).mono ?_
  rintro e w1 ⟨rfl, hb1⟩
  have HB1 := Lib.hid (hbt (below_al _ _) hb1)
  have HO1 := Lib.hid (spec_at hb1)
  obtain ⟨c0, c1, c2, c3, c4⟩ := obj_cells5 HO1.out
  clear hb1
  go_wp2_with fail
  refine (HR.out _).mono ?_
  rintro e w2 ⟨rfl, hb2⟩
  have HB2 := Lib.hid (hbt HB1.out hb2)
  have HO2 := Lib.hid (obj_below HO1.out hb2)
  clear hb2 c0 c1 c2 c3 c4
  obtain ⟨c0, c1, c2, c3, c4⟩ := obj_cells5 HO2.out
  go_wp2_with fail
  refine (HV.out _).mono ?_
  rintro e w3 ⟨rfl, hb3⟩
  have HB3 := Lib.hid (hbt HB2.out hb3)
  have HO3 := Lib.hid (obj_below HO2.out hb3)
  clear hb3 c0 c1 c2 c3 c4
  obtain ⟨c0, c1, c2, c3, c4⟩ := obj_cells5 HO3.out
  go_wp2
  go_ret3
  exact ⟨rfl, HB3.out⟩
set_option linter.unusedVariables false in
set_option maxRecDepth 100000 in
set_option maxHeartbeats 1600000 in
theorem crg_xd_cut (n c lo : Int) (p a : Nat) (s : ByteArray) (w : World)
    (hs : s.size ≤ 1000000) (hp : p ≤ s.size) (ha : a ≤ 999)
    (hc : (c == 1) = false)
    (hk : ∀ W, Calls Tryd.prog 51 #[.agg #[.int .i64 n, .int .i64 c, .int .i64 1, .int .i64 lo, .int .i64 (a : Int)]] W fun e w' => e = .returned (.int .i64 0) ∧ Below W.heap.size W w')
    (h : s.size < p + a) :
    Calls Tryd.prog 26 #[.int .i64 2, .agg #[.int .i64 n, .int .i64 c, .int .i64 1, .int .i64 lo, .int .i64 (a : Int)], .string s, .int .i64 (p : Int)] w fun e w' => e = .returned (.tuple #[.string ⟨#[]⟩, .int .i64 0, .int .i64 2]) ∧ Below w.heap.size w w' := by
  have HK := Lib.hid hk
  have t1 : decide ((p : Int) < 0) = false := by simp
  have t2 : decide (s.size < p) = false := by simp; omega
  have t5 : decide ((s.size : Int) - (p : Int) < (a : Int)) = true := by simp; omega
  clear hk h
  go_enter Tryd.func26, Tryd.ntmps26
  go_wp2_with fail
  refine (HK.out _).mono ?_
  rintro e w1 ⟨rfl, hb1⟩
  have HB1 := Lib.hid (hbt (below_al _ _) hb1)
  have HO1 := Lib.hid (spec_at hb1)
  obtain ⟨c0, c1, c2, c3, c4⟩ := obj_cells5 HO1.out
  clear hb1
  go_wp2
  go_ret3
  exact ⟨rfl, HB1.out⟩
set_option linter.unusedVariables false in
set_option maxRecDepth 100000 in
set_option maxHeartbeats 1600000 in
theorem crg_xd_val (n c lo : Int) (p a : Nat) (s : ByteArray) (w : World)
    (hs : s.size ≤ 1000000) (hp : p ≤ s.size) (ha : a ≤ 999)
    (hc : (c == 1) = false)
    (hk : ∀ W, Calls Tryd.prog 51 #[.agg #[.int .i64 n, .int .i64 c, .int .i64 1, .int .i64 lo, .int .i64 (a : Int)]] W fun e w' => e = .returned (.int .i64 0) ∧ Below W.heap.size W w')
    (h : p + a ≤ s.size)
    (x : Int) (hx : (x != 0) = true)
    (hv : ∀ W, Calls Tryd.prog 54 #[.agg #[.int .i64 n, .int .i64 c, .int .i64 1, .int .i64 lo, .int .i64 (a : Int)], .string (s.extract p (p + a))] W fun e w' => e = .returned (.int .i64 x) ∧ Below W.heap.size W w') :
    Calls Tryd.prog 26 #[.int .i64 2, .agg #[.int .i64 n, .int .i64 c, .int .i64 1, .int .i64 lo, .int .i64 (a : Int)], .string s, .int .i64 (p : Int)] w fun e w' => e = .returned (.tuple #[.string ⟨#[]⟩, .int .i64 0, .int .i64 x]) ∧ Below w.heap.size w w' := by
  have HK := Lib.hid hk
  have t1 : decide ((p : Int) < 0) = false := by simp
  have t2 : decide (s.size < p) = false := by simp; omega
  have t5 : decide ((s.size : Int) - (p : Int) < (a : Int)) = false := by simp; omega
  have HV := Lib.hid hv
  clear hk hv
  go_enter Tryd.func26, Tryd.ntmps26
  go_wp2_with fail
  refine (HK.out _).mono ?_
  rintro e w1 ⟨rfl, hb1⟩
  have HB1 := Lib.hid (hbt (below_al _ _) hb1)
  have HO1 := Lib.hid (spec_at hb1)
  obtain ⟨c0, c1, c2, c3, c4⟩ := obj_cells5 HO1.out
  clear hb1
  go_wp2_with fail
  refine (HV.out _).mono ?_
  rintro e w2 ⟨rfl, hb2⟩
  have HB2 := Lib.hid (hbt HB1.out hb2)
  have HO2 := Lib.hid (obj_below HO1.out hb2)
  clear hb2 c0 c1 c2 c3 c4
  obtain ⟨c0, c1, c2, c3, c4⟩ := obj_cells5 HO2.out
  go_wp2
  go_ret3
  exact ⟨rfl, HB2.out⟩
set_option linter.unusedVariables false in
set_option maxRecDepth 100000 in
set_option maxHeartbeats 1600000 in
theorem crg_xd_ok (n c lo : Int) (p a : Nat) (s : ByteArray) (w : World)
    (hs : s.size ≤ 1000000) (hp : p ≤ s.size) (ha : a ≤ 999)
    (hc : (c == 1) = false)
    (hk : ∀ W, Calls Tryd.prog 51 #[.agg #[.int .i64 n, .int .i64 c, .int .i64 1, .int .i64 lo, .int .i64 (a : Int)]] W fun e w' => e = .returned (.int .i64 0) ∧ Below W.heap.size W w')
    (h : p + a ≤ s.size)
    (hv : ∀ W, Calls Tryd.prog 54 #[.agg #[.int .i64 n, .int .i64 c, .int .i64 1, .int .i64 lo, .int .i64 (a : Int)], .string (s.extract p (p + a))] W fun e w' => e = .returned (.int .i64 0) ∧ Below W.heap.size W w') :
    Calls Tryd.prog 26 #[.int .i64 2, .agg #[.int .i64 n, .int .i64 c, .int .i64 1, .int .i64 lo, .int .i64 (a : Int)], .string s, .int .i64 (p : Int)] w fun e w' => e = .returned (.tuple #[.string (s.extract p (p + a)), .int .i64 ((p + a : Nat) : Int), .int .i64 0]) ∧ Below w.heap.size w w' := by
  have HK := Lib.hid hk
  have t1 : decide ((p : Int) < 0) = false := by simp
  have t2 : decide (s.size < p) = false := by simp; omega
  have t5 : decide ((s.size : Int) - (p : Int) < (a : Int)) = false := by simp; omega
  have HV := Lib.hid hv
  clear hk hv
  go_enter Tryd.func26, Tryd.ntmps26
  go_wp2_with fail
  refine (HK.out _).mono ?_
  rintro e w1 ⟨rfl, hb1⟩
  have HB1 := Lib.hid (hbt (below_al _ _) hb1)
  have HO1 := Lib.hid (spec_at hb1)
  obtain ⟨c0, c1, c2, c3, c4⟩ := obj_cells5 HO1.out
  clear hb1
  go_wp2_with fail
  refine (HV.out _).mono ?_
  rintro e w2 ⟨rfl, hb2⟩
  have HB2 := Lib.hid (hbt HB1.out hb2)
  have HO2 := Lib.hid (obj_below HO1.out hb2)
  clear hb2 c0 c1 c2 c3 c4
  obtain ⟨c0, c1, c2, c3, c4⟩ := obj_cells5 HO2.out
  go_wp2
  go_ret3
  exact ⟨rfl, HB2.out⟩


end Go.Proofs.YtlkpiapmdflahaaDoor

/-
  What the document's Get answers, where the length is told.
-/
namespace Go.Proofs.YtlkpiapmdflahaaDoor
open Go.RowKit

set_option linter.unusedVariables false in
set_option maxRecDepth 100000 in
set_option maxHeartbeats 1600000 in
theorem crg_va_cut (n c lo hi f : Int) (p a q z : Nat) (s : ByteArray) (w : World)
    (hs : s.size ≤ 1000000) (hp : p ≤ s.size) (ha : a ≤ 999) (hq : q ≤ s.size) (hf : (f != 1) = true) (hlo : ¬ ((a : Int) < lo ∨ hi < (a : Int)))
    (hc : decide (5 ≤ c) = true)
    (hzq : (a : Int) + (a : Int) = (z : Int))
    (hk : ∀ W, Calls Tryd.prog 51 #[.agg #[.int .i64 n, .int .i64 c, .int .i64 f, .int .i64 lo, .int .i64 hi]] W fun e w' => e = .returned (.int .i64 0) ∧ Below W.heap.size W w')
    (hg : ∀ W, Calls Tryd.prog 52 #[.int .i64 1, .int .i64 f, .string s, .int .i64 (p : Int)] W fun e w' => e = .returned (.tuple #[.int .i64 (a : Int), .int .i64 (q : Int), .int .i64 0]) ∧ Below W.heap.size W w')
    (h : s.size < q + z) :
    Calls Tryd.prog 26 #[.int .i64 1, .agg #[.int .i64 n, .int .i64 c, .int .i64 f, .int .i64 lo, .int .i64 hi], .string s, .int .i64 (p : Int)] w fun e w' => e = .returned (.tuple #[.string ⟨#[]⟩, .int .i64 0, .int .i64 2]) ∧ Below w.heap.size w w' := by
  have HK := Lib.hid hk
  have t1 : decide ((p : Int) < 0) = false := by simp
  have t2 : decide (s.size < p) = false := by simp; omega
  have HG := Lib.hid hg
  have t3 : decide ((a : Int) < lo) = false := by simp; omega
  have t4 : decide (hi < (a : Int)) = false := by simp; omega
  have hzb : z ≤ 2000 := by omega
  have t5 : decide ((s.size : Int) - (q : Int) < (z : Int)) = true := by simp; omega
  clear hk hg hlo h
  go_enter Tryd.func26, Tryd.ntmps26
  go_wp2_with fail
  refine (HK.out _).mono ?_
  rintro e w1 ⟨rfl, hb1⟩
  have HB1 := Lib.hid (hbt (below_al _ _) hb1)
  have HO1 := Lib.hid (spec_at hb1)
  obtain ⟨c0, c1, c2, c3, c4⟩ := obj_cells5 HO1.out
  clear hb1
  go_wp2_with fail
  refine (HG.out _).mono ?_
  rintro e w2 ⟨rfl, hb2⟩
  have HB2 := Lib.hid (hbt HB1.out hb2)
  have HO2 := Lib.hid (obj_below HO1.out hb2)
  clear hb2 c0 c1 c2 c3 c4
  obtain ⟨c0, c1, c2, c3, c4⟩ := obj_cells5 HO2.out
  go_wp2
  go_ret3
  exact ⟨rfl, HB2.out⟩
set_option linter.unusedVariables false in
set_option maxRecDepth 100000 in
set_option maxHeartbeats 1600000 in
theorem crg_va_read (n c lo hi f : Int) (p a q z : Nat) (s : ByteArray) (w : World)
    (hs : s.size ≤ 1000000) (hp : p ≤ s.size) (ha : a ≤ 999) (hq : q ≤ s.size) (hf : (f != 1) = true) (hlo : ¬ ((a : Int) < lo ∨ hi < (a : Int)))
    (hc : decide (5 ≤ c) = true)
    (hzq : (a : Int) + (a : Int) = (z : Int))
    (hk : ∀ W, Calls Tryd.prog 51 #[.agg #[.int .i64 n, .int .i64 c, .int .i64 f, .int .i64 lo, .int .i64 hi]] W fun e w' => e = .returned (.int .i64 0) ∧ Below W.heap.size W w')
    (hg : ∀ W, Calls Tryd.prog 52 #[.int .i64 1, .int .i64 f, .string s, .int .i64 (p : Int)] W fun e w' => e = .returned (.tuple #[.int .i64 (a : Int), .int .i64 (q : Int), .int .i64 0]) ∧ Below W.heap.size W w')
    (h : q + z ≤ s.size)
    (t : ByteArray) (y : Int)
    (hr : ∀ W, Calls Tryd.prog 53 #[.string (s.extract q (q + z))] W fun e w' => e = .returned (.tuple #[.string t, .int .i64 y, .bool false]) ∧ Below W.heap.size W w') :
    Calls Tryd.prog 26 #[.int .i64 1, .agg #[.int .i64 n, .int .i64 c, .int .i64 f, .int .i64 lo, .int .i64 hi], .string s, .int .i64 (p : Int)] w fun e w' => e = .returned (.tuple #[.string ⟨#[]⟩, .int .i64 0, .int .i64 3]) ∧ Below w.heap.size w w' := by
  have HK := Lib.hid hk
  have t1 : decide ((p : Int) < 0) = false := by simp
  have t2 : decide (s.size < p) = false := by simp; omega
  have HG := Lib.hid hg
  have t3 : decide ((a : Int) < lo) = false := by simp; omega
  have t4 : decide (hi < (a : Int)) = false := by simp; omega
  have hzb : z ≤ 2000 := by omega
  have t5 : decide ((s.size : Int) - (q : Int) < (z : Int)) = false := by simp; omega
  have HR := Lib.hid hr
  clear hk hg hlo hr
  go_enter Tryd.func26, Tryd.ntmps26
  go_wp2_with fail
  refine (HK.out _).mono ?_
  rintro e w1 ⟨rfl, hb1⟩
  have HB1 := Lib.hid (hbt (below_al _ _) hb1)
  have HO1 := Lib.hid (spec_at hb1)
  obtain ⟨c0, c1, c2, c3, c4⟩ := obj_cells5 HO1.out
  clear hb1
  go_wp2_with fail
  refine (HG.out _).mono ?_
  rintro e w2 ⟨rfl, hb2⟩
  have HB2 := Lib.hid (hbt HB1.out hb2)
  have HO2 := Lib.hid (obj_below HO1.out hb2)
  clear hb2 c0 c1 c2 c3 c4
  obtain ⟨c0, c1, c2, c3, c4⟩ := obj_cells5 HO2.out
  go_wp2_with fail
  refine (HR.out _).mono ?_
  rintro e w3 ⟨rfl, hb3⟩
  have HB3 := Lib.hid (hbt HB2.out hb3)
  have HO3 := Lib.hid (obj_below HO2.out hb3)
  clear hb3 c0 c1 c2 c3 c4
  obtain ⟨c0, c1, c2, c3, c4⟩ := obj_cells5 HO3.out
  go_wp2
  go_ret3
  exact ⟨rfl, HB3.out⟩
set_option linter.unusedVariables false in
set_option maxRecDepth 100000 in
set_option maxHeartbeats 1600000 in
theorem crg_va_val (n c lo hi f : Int) (p a q z : Nat) (s : ByteArray) (w : World)
    (hs : s.size ≤ 1000000) (hp : p ≤ s.size) (ha : a ≤ 999) (hq : q ≤ s.size) (hf : (f != 1) = true) (hlo : ¬ ((a : Int) < lo ∨ hi < (a : Int)))
    (hc : decide (5 ≤ c) = true)
    (hzq : (a : Int) + (a : Int) = (z : Int))
    (hk : ∀ W, Calls Tryd.prog 51 #[.agg #[.int .i64 n, .int .i64 c, .int .i64 f, .int .i64 lo, .int .i64 hi]] W fun e w' => e = .returned (.int .i64 0) ∧ Below W.heap.size W w')
    (hg : ∀ W, Calls Tryd.prog 52 #[.int .i64 1, .int .i64 f, .string s, .int .i64 (p : Int)] W fun e w' => e = .returned (.tuple #[.int .i64 (a : Int), .int .i64 (q : Int), .int .i64 0]) ∧ Below W.heap.size W w')
    (h : q + z ≤ s.size)
    (t : ByteArray) (y : Int)
    (hr : ∀ W, Calls Tryd.prog 53 #[.string (s.extract q (q + z))] W fun e w' => e = .returned (.tuple #[.string t, .int .i64 y, .bool true]) ∧ Below W.heap.size W w')
    (x : Int) (hx : (x != 0) = true)
    (hv : ∀ W, Calls Tryd.prog 54 #[.agg #[.int .i64 n, .int .i64 c, .int .i64 f, .int .i64 lo, .int .i64 hi], .string t] W fun e w' => e = .returned (.int .i64 x) ∧ Below W.heap.size W w') :
    Calls Tryd.prog 26 #[.int .i64 1, .agg #[.int .i64 n, .int .i64 c, .int .i64 f, .int .i64 lo, .int .i64 hi], .string s, .int .i64 (p : Int)] w fun e w' => e = .returned (.tuple #[.string ⟨#[]⟩, .int .i64 0, .int .i64 x]) ∧ Below w.heap.size w w' := by
  have HK := Lib.hid hk
  have t1 : decide ((p : Int) < 0) = false := by simp
  have t2 : decide (s.size < p) = false := by simp; omega
  have HG := Lib.hid hg
  have t3 : decide ((a : Int) < lo) = false := by simp; omega
  have t4 : decide (hi < (a : Int)) = false := by simp; omega
  have hzb : z ≤ 2000 := by omega
  have t5 : decide ((s.size : Int) - (q : Int) < (z : Int)) = false := by simp; omega
  have HR := Lib.hid hr
  have HV := Lib.hid hv
  clear hk hg hlo hv hr
  go_enter Tryd.func26, Tryd.ntmps26
  go_wp2_with fail
  refine (HK.out _).mono ?_
  rintro e w1 ⟨rfl, hb1⟩
  have HB1 := Lib.hid (hbt (below_al _ _) hb1)
  have HO1 := Lib.hid (spec_at hb1)
  obtain ⟨c0, c1, c2, c3, c4⟩ := obj_cells5 HO1.out
  clear hb1
  go_wp2_with fail
  refine (HG.out _).mono ?_
  rintro e w2 ⟨rfl, hb2⟩
  have HB2 := Lib.hid (hbt HB1.out hb2)
  have HO2 := Lib.hid (obj_below HO1.out hb2)
  clear hb2 c0 c1 c2 c3 c4
  obtain ⟨c0, c1, c2, c3, c4⟩ := obj_cells5 HO2.out
  go_wp2_with fail
  refine (HR.out _).mono ?_
  rintro e w3 ⟨rfl, hb3⟩
  have HB3 := Lib.hid (hbt HB2.out hb3)
  have HO3 := Lib.hid (obj_below HO2.out hb3)
  clear hb3 c0 c1 c2 c3 c4
  obtain ⟨c0, c1, c2, c3, c4⟩ := obj_cells5 HO3.out
  go_wp2_with fail
  refine (HV.out _).mono ?_
  rintro e w4 ⟨rfl, hb4⟩
  have HB4 := Lib.hid (hbt HB3.out hb4)
  have HO4 := Lib.hid (obj_below HO3.out hb4)
  clear hb4 c0 c1 c2 c3 c4
  obtain ⟨c0, c1, c2, c3, c4⟩ := obj_cells5 HO4.out
  go_wp2
  go_ret3
  exact ⟨rfl, HB4.out⟩
set_option linter.unusedVariables false in
set_option maxRecDepth 100000 in
set_option maxHeartbeats 1600000 in
theorem crg_va_ok (n c lo hi f : Int) (p a q z : Nat) (s : ByteArray) (w : World)
    (hs : s.size ≤ 1000000) (hp : p ≤ s.size) (ha : a ≤ 999) (hq : q ≤ s.size) (hf : (f != 1) = true) (hlo : ¬ ((a : Int) < lo ∨ hi < (a : Int)))
    (hc : decide (5 ≤ c) = true)
    (hzq : (a : Int) + (a : Int) = (z : Int))
    (hk : ∀ W, Calls Tryd.prog 51 #[.agg #[.int .i64 n, .int .i64 c, .int .i64 f, .int .i64 lo, .int .i64 hi]] W fun e w' => e = .returned (.int .i64 0) ∧ Below W.heap.size W w')
    (hg : ∀ W, Calls Tryd.prog 52 #[.int .i64 1, .int .i64 f, .string s, .int .i64 (p : Int)] W fun e w' => e = .returned (.tuple #[.int .i64 (a : Int), .int .i64 (q : Int), .int .i64 0]) ∧ Below W.heap.size W w')
    (h : q + z ≤ s.size)
    (t : ByteArray) (y : Int)
    (hr : ∀ W, Calls Tryd.prog 53 #[.string (s.extract q (q + z))] W fun e w' => e = .returned (.tuple #[.string t, .int .i64 y, .bool true]) ∧ Below W.heap.size W w')
    (hv : ∀ W, Calls Tryd.prog 54 #[.agg #[.int .i64 n, .int .i64 c, .int .i64 f, .int .i64 lo, .int .i64 hi], .string t] W fun e w' => e = .returned (.int .i64 0) ∧ Below W.heap.size W w') :
    Calls Tryd.prog 26 #[.int .i64 1, .agg #[.int .i64 n, .int .i64 c, .int .i64 f, .int .i64 lo, .int .i64 hi], .string s, .int .i64 (p : Int)] w fun e w' => e = .returned (.tuple #[.string t, .int .i64 ((q + z : Nat) : Int), .int .i64 0]) ∧ Below w.heap.size w w' := by
  have HK := Lib.hid hk
  have t1 : decide ((p : Int) < 0) = false := by simp
  have t2 : decide (s.size < p) = false := by simp; omega
  have HG := Lib.hid hg
  have t3 : decide ((a : Int) < lo) = false := by simp; omega
  have t4 : decide (hi < (a : Int)) = false := by simp; omega
  have hzb : z ≤ 2000 := by omega
  have t5 : decide ((s.size : Int) - (q : Int) < (z : Int)) = false := by simp; omega
  have HR := Lib.hid hr
  have HV := Lib.hid hv
  clear hk hg hlo hv hr
  go_enter Tryd.func26, Tryd.ntmps26
  go_wp2_with fail
  refine (HK.out _).mono ?_
  rintro e w1 ⟨rfl, hb1⟩
  have HB1 := Lib.hid (hbt (below_al _ _) hb1)
  have HO1 := Lib.hid (spec_at hb1)
  obtain ⟨c0, c1, c2, c3, c4⟩ := obj_cells5 HO1.out
  clear hb1
  go_wp2_with fail
  refine (HG.out _).mono ?_
  rintro e w2 ⟨rfl, hb2⟩
  have HB2 := Lib.hid (hbt HB1.out hb2)
  have HO2 := Lib.hid (obj_below HO1.out hb2)
  clear hb2 c0 c1 c2 c3 c4
  obtain ⟨c0, c1, c2, c3, c4⟩ := obj_cells5 HO2.out
  go_wp2_with fail
  refine (HR.out _).mono ?_
  rintro e w3 ⟨rfl, hb3⟩
  have HB3 := Lib.hid (hbt HB2.out hb3)
  have HO3 := Lib.hid (obj_below HO2.out hb3)
  clear hb3 c0 c1 c2 c3 c4
  obtain ⟨c0, c1, c2, c3, c4⟩ := obj_cells5 HO3.out
  go_wp2_with fail
  refine (HV.out _).mono ?_
  rintro e w4 ⟨rfl, hb4⟩
  have HB4 := Lib.hid (hbt HB3.out hb4)
  have HO4 := Lib.hid (obj_below HO3.out hb4)
  clear hb4 c0 c1 c2 c3 c4
  obtain ⟨c0, c1, c2, c3, c4⟩ := obj_cells5 HO4.out
  go_wp2
  go_ret3
  exact ⟨rfl, HB4.out⟩
set_option linter.unusedVariables false in
set_option maxRecDepth 100000 in
set_option maxHeartbeats 1600000 in
theorem crg_vb_cut (n c lo hi f : Int) (p a q : Nat) (s : ByteArray) (w : World)
    (hs : s.size ≤ 1000000) (hp : p ≤ s.size) (ha : a ≤ 999) (hq : q ≤ s.size) (hf : (f != 1) = true) (hlo : ¬ ((a : Int) < lo ∨ hi < (a : Int)))
    (hc : decide (5 ≤ c) = false)
    (hk : ∀ W, Calls Tryd.prog 51 #[.agg #[.int .i64 n, .int .i64 c, .int .i64 f, .int .i64 lo, .int .i64 hi]] W fun e w' => e = .returned (.int .i64 0) ∧ Below W.heap.size W w')
    (hg : ∀ W, Calls Tryd.prog 52 #[.int .i64 1, .int .i64 f, .string s, .int .i64 (p : Int)] W fun e w' => e = .returned (.tuple #[.int .i64 (a : Int), .int .i64 (q : Int), .int .i64 0]) ∧ Below W.heap.size W w')
    (h : s.size < q + a) :
    Calls Tryd.prog 26 #[.int .i64 1, .agg #[.int .i64 n, .int .i64 c, .int .i64 f, .int .i64 lo, .int .i64 hi], .string s, .int .i64 (p : Int)] w fun e w' => e = .returned (.tuple #[.string ⟨#[]⟩, .int .i64 0, .int .i64 2]) ∧ Below w.heap.size w w' := by
  have HK := Lib.hid hk
  have t1 : decide ((p : Int) < 0) = false := by simp
  have t2 : decide (s.size < p) = false := by simp; omega
  have HG := Lib.hid hg
  have t3 : decide ((a : Int) < lo) = false := by simp; omega
  have t4 : decide (hi < (a : Int)) = false := by simp; omega
  have t5 : decide ((s.size : Int) - (q : Int) < (a : Int)) = true := by simp; omega
  clear hk hg hlo h
  go_enter Tryd.func26, Tryd.ntmps26
  go_wp2_with fail
  refine (HK.out _).mono ?_
  rintro e w1 ⟨rfl, hb1⟩
  have HB1 := Lib.hid (hbt (below_al _ _) hb1)
  have HO1 := Lib.hid (spec_at hb1)
  obtain ⟨c0, c1, c2, c3, c4⟩ := obj_cells5 HO1.out
  clear hb1
  go_wp2_with fail
  refine (HG.out _).mono ?_
  rintro e w2 ⟨rfl, hb2⟩
  have HB2 := Lib.hid (hbt HB1.out hb2)
  have HO2 := Lib.hid (obj_below HO1.out hb2)
  clear hb2 c0 c1 c2 c3 c4
  obtain ⟨c0, c1, c2, c3, c4⟩ := obj_cells5 HO2.out
  go_wp2
  go_ret3
  exact ⟨rfl, HB2.out⟩
set_option linter.unusedVariables false in
set_option maxRecDepth 100000 in
set_option maxHeartbeats 1600000 in
theorem crg_vb_val (n c lo hi f : Int) (p a q : Nat) (s : ByteArray) (w : World)
    (hs : s.size ≤ 1000000) (hp : p ≤ s.size) (ha : a ≤ 999) (hq : q ≤ s.size) (hf : (f != 1) = true) (hlo : ¬ ((a : Int) < lo ∨ hi < (a : Int)))
    (hc : decide (5 ≤ c) = false)
    (hk : ∀ W, Calls Tryd.prog 51 #[.agg #[.int .i64 n, .int .i64 c, .int .i64 f, .int .i64 lo, .int .i64 hi]] W fun e w' => e = .returned (.int .i64 0) ∧ Below W.heap.size W w')
    (hg : ∀ W, Calls Tryd.prog 52 #[.int .i64 1, .int .i64 f, .string s, .int .i64 (p : Int)] W fun e w' => e = .returned (.tuple #[.int .i64 (a : Int), .int .i64 (q : Int), .int .i64 0]) ∧ Below W.heap.size W w')
    (h : q + a ≤ s.size)
    (x : Int) (hx : (x != 0) = true)
    (hv : ∀ W, Calls Tryd.prog 54 #[.agg #[.int .i64 n, .int .i64 c, .int .i64 f, .int .i64 lo, .int .i64 hi], .string (s.extract q (q + a))] W fun e w' => e = .returned (.int .i64 x) ∧ Below W.heap.size W w') :
    Calls Tryd.prog 26 #[.int .i64 1, .agg #[.int .i64 n, .int .i64 c, .int .i64 f, .int .i64 lo, .int .i64 hi], .string s, .int .i64 (p : Int)] w fun e w' => e = .returned (.tuple #[.string ⟨#[]⟩, .int .i64 0, .int .i64 x]) ∧ Below w.heap.size w w' := by
  have HK := Lib.hid hk
  have t1 : decide ((p : Int) < 0) = false := by simp
  have t2 : decide (s.size < p) = false := by simp; omega
  have HG := Lib.hid hg
  have t3 : decide ((a : Int) < lo) = false := by simp; omega
  have t4 : decide (hi < (a : Int)) = false := by simp; omega
  have t5 : decide ((s.size : Int) - (q : Int) < (a : Int)) = false := by simp; omega
  have HV := Lib.hid hv
  clear hk hg hlo hv
  go_enter Tryd.func26, Tryd.ntmps26
  go_wp2_with fail
  refine (HK.out _).mono ?_
  rintro e w1 ⟨rfl, hb1⟩
  have HB1 := Lib.hid (hbt (below_al _ _) hb1)
  have HO1 := Lib.hid (spec_at hb1)
  obtain ⟨c0, c1, c2, c3, c4⟩ := obj_cells5 HO1.out
  clear hb1
  go_wp2_with fail
  refine (HG.out _).mono ?_
  rintro e w2 ⟨rfl, hb2⟩
  have HB2 := Lib.hid (hbt HB1.out hb2)
  have HO2 := Lib.hid (obj_below HO1.out hb2)
  clear hb2 c0 c1 c2 c3 c4
  obtain ⟨c0, c1, c2, c3, c4⟩ := obj_cells5 HO2.out
  go_wp2_with fail
  refine (HV.out _).mono ?_
  rintro e w3 ⟨rfl, hb3⟩
  have HB3 := Lib.hid (hbt HB2.out hb3)
  have HO3 := Lib.hid (obj_below HO2.out hb3)
  clear hb3 c0 c1 c2 c3 c4
  obtain ⟨c0, c1, c2, c3, c4⟩ := obj_cells5 HO3.out
  go_wp2
  go_ret3
  exact ⟨rfl, HB3.out⟩
set_option linter.unusedVariables false in
set_option maxRecDepth 100000 in
set_option maxHeartbeats 1600000 in
theorem crg_vb_ok (n c lo hi f : Int) (p a q : Nat) (s : ByteArray) (w : World)
    (hs : s.size ≤ 1000000) (hp : p ≤ s.size) (ha : a ≤ 999) (hq : q ≤ s.size) (hf : (f != 1) = true) (hlo : ¬ ((a : Int) < lo ∨ hi < (a : Int)))
    (hc : decide (5 ≤ c) = false)
    (hk : ∀ W, Calls Tryd.prog 51 #[.agg #[.int .i64 n, .int .i64 c, .int .i64 f, .int .i64 lo, .int .i64 hi]] W fun e w' => e = .returned (.int .i64 0) ∧ Below W.heap.size W w')
    (hg : ∀ W, Calls Tryd.prog 52 #[.int .i64 1, .int .i64 f, .string s, .int .i64 (p : Int)] W fun e w' => e = .returned (.tuple #[.int .i64 (a : Int), .int .i64 (q : Int), .int .i64 0]) ∧ Below W.heap.size W w')
    (h : q + a ≤ s.size)
    (hv : ∀ W, Calls Tryd.prog 54 #[.agg #[.int .i64 n, .int .i64 c, .int .i64 f, .int .i64 lo, .int .i64 hi], .string (s.extract q (q + a))] W fun e w' => e = .returned (.int .i64 0) ∧ Below W.heap.size W w') :
    Calls Tryd.prog 26 #[.int .i64 1, .agg #[.int .i64 n, .int .i64 c, .int .i64 f, .int .i64 lo, .int .i64 hi], .string s, .int .i64 (p : Int)] w fun e w' => e = .returned (.tuple #[.string (s.extract q (q + a)), .int .i64 ((q + a : Nat) : Int), .int .i64 0]) ∧ Below w.heap.size w w' := by
  have HK := Lib.hid hk
  have t1 : decide ((p : Int) < 0) = false := by simp
  have t2 : decide (s.size < p) = false := by simp; omega
  have HG := Lib.hid hg
  have t3 : decide ((a : Int) < lo) = false := by simp; omega
  have t4 : decide (hi < (a : Int)) = false := by simp; omega
  have t5 : decide ((s.size : Int) - (q : Int) < (a : Int)) = false := by simp; omega
  have HV := Lib.hid hv
  clear hk hg hlo hv
  go_enter Tryd.func26, Tryd.ntmps26
  go_wp2_with fail
  refine (HK.out _).mono ?_
  rintro e w1 ⟨rfl, hb1⟩
  have HB1 := Lib.hid (hbt (below_al _ _) hb1)
  have HO1 := Lib.hid (spec_at hb1)
  obtain ⟨c0, c1, c2, c3, c4⟩ := obj_cells5 HO1.out
  clear hb1
  go_wp2_with fail
  refine (HG.out _).mono ?_
  rintro e w2 ⟨rfl, hb2⟩
  have HB2 := Lib.hid (hbt HB1.out hb2)
  have HO2 := Lib.hid (obj_below HO1.out hb2)
  clear hb2 c0 c1 c2 c3 c4
  obtain ⟨c0, c1, c2, c3, c4⟩ := obj_cells5 HO2.out
  go_wp2_with fail
  refine (HV.out _).mono ?_
  rintro e w3 ⟨rfl, hb3⟩
  have HB3 := Lib.hid (hbt HB2.out hb3)
  have HO3 := Lib.hid (obj_below HO2.out hb3)
  clear hb3 c0 c1 c2 c3 c4
  obtain ⟨c0, c1, c2, c3, c4⟩ := obj_cells5 HO3.out
  go_wp2
  go_ret3
  exact ⟨rfl, HB3.out⟩
set_option linter.unusedVariables false in
set_option maxRecDepth 100000 in
set_option maxHeartbeats 1600000 in
theorem crg_vc_cut (n lo hi f : Int) (p a q z : Nat) (s : ByteArray) (w : World)
    (hs : s.size ≤ 1000000) (hp : p ≤ s.size) (ha : a ≤ 999) (hq : q ≤ s.size) (hf : (f != 1) = true) (hlo : ¬ ((a : Int) < lo ∨ hi < (a : Int)))
    (hzq : ((a : Int) + 1) / 2 = (z : Int))
    (hk : ∀ W, Calls Tryd.prog 51 #[.agg #[.int .i64 n, .int .i64 1, .int .i64 f, .int .i64 lo, .int .i64 hi]] W fun e w' => e = .returned (.int .i64 0) ∧ Below W.heap.size W w')
    (hg : ∀ W, Calls Tryd.prog 52 #[.int .i64 2, .int .i64 f, .string s, .int .i64 (p : Int)] W fun e w' => e = .returned (.tuple #[.int .i64 (a : Int), .int .i64 (q : Int), .int .i64 0]) ∧ Below W.heap.size W w')
    (h : s.size < q + z) :
    Calls Tryd.prog 26 #[.int .i64 2, .agg #[.int .i64 n, .int .i64 1, .int .i64 f, .int .i64 lo, .int .i64 hi], .string s, .int .i64 (p : Int)] w fun e w' => e = .returned (.tuple #[.string ⟨#[]⟩, .int .i64 0, .int .i64 2]) ∧ Below w.heap.size w w' := by
  have HK := Lib.hid hk
  have t1 : decide ((p : Int) < 0) = false := by simp
  have t2 : decide (s.size < p) = false := by simp; omega
  have HG := Lib.hid hg
  have t3 : decide ((a : Int) < lo) = false := by simp; omega
  have t4 : decide (hi < (a : Int)) = false := by simp; omega
  have hzb : z ≤ 2000 := by omega
  have t5 : decide ((s.size : Int) - (q : Int) < (z : Int)) = true := by simp; omega
  clear hk hg hlo h
  go_enter Tryd.func26, Tryd.ntmps26
  go_wp2_with fail
  refine (HK.out _).mono ?_
  rintro e w1 ⟨rfl, hb1⟩
  have HB1 := Lib.hid (hbt (below_al _ _) hb1)
  have HO1 := Lib.hid (spec_at hb1)
  obtain ⟨c0, c1, c2, c3, c4⟩ := obj_cells5 HO1.out
  clear hb1
  go_wp2_with fail
  refine (HG.out _).mono ?_
  rintro e w2 ⟨rfl, hb2⟩
  have HB2 := Lib.hid (hbt HB1.out hb2)
  have HO2 := Lib.hid (obj_below HO1.out hb2)
  clear hb2 c0 c1 c2 c3 c4
  obtain ⟨c0, c1, c2, c3, c4⟩ := obj_cells5 HO2.out
  go_wp2
  go_ret3
  exact ⟨rfl, HB2.out⟩
set_option linter.unusedVariables false in
set_option maxRecDepth 100000 in
set_option maxHeartbeats 1600000 in
theorem crg_vc_read (n lo hi f : Int) (p a q z : Nat) (s : ByteArray) (w : World)
    (hs : s.size ≤ 1000000) (hp : p ≤ s.size) (ha : a ≤ 999) (hq : q ≤ s.size) (hf : (f != 1) = true) (hlo : ¬ ((a : Int) < lo ∨ hi < (a : Int)))
    (hzq : ((a : Int) + 1) / 2 = (z : Int))
    (hk : ∀ W, Calls Tryd.prog 51 #[.agg #[.int .i64 n, .int .i64 1, .int .i64 f, .int .i64 lo, .int .i64 hi]] W fun e w' => e = .returned (.int .i64 0) ∧ Below W.heap.size W w')
    (hg : ∀ W, Calls Tryd.prog 52 #[.int .i64 2, .int .i64 f, .string s, .int .i64 (p : Int)] W fun e w' => e = .returned (.tuple #[.int .i64 (a : Int), .int .i64 (q : Int), .int .i64 0]) ∧ Below W.heap.size W w')
    (h : q + z ≤ s.size)
    (t : ByteArray) (y x : Int) (hx : (x != 0) = true)
    (hr : ∀ W, Calls Tryd.prog 22 #[.string (s.extract q (q + z)), .int .i64 (a : Int)] W fun e w' => e = .returned (.tuple #[.string t, .int .i64 x, .int .i64 y]) ∧ Below W.heap.size W w') :
    Calls Tryd.prog 26 #[.int .i64 2, .agg #[.int .i64 n, .int .i64 1, .int .i64 f, .int .i64 lo, .int .i64 hi], .string s, .int .i64 (p : Int)] w fun e w' => e = .returned (.tuple #[.string ⟨#[]⟩, .int .i64 0, .int .i64 x]) ∧ Below w.heap.size w w' := by
  have HK := Lib.hid hk
  have t1 : decide ((p : Int) < 0) = false := by simp
  have t2 : decide (s.size < p) = false := by simp; omega
  have HG := Lib.hid hg
  have t3 : decide ((a : Int) < lo) = false := by simp; omega
  have t4 : decide (hi < (a : Int)) = false := by simp; omega
  have hzb : z ≤ 2000 := by omega
  have t5 : decide ((s.size : Int) - (q : Int) < (z : Int)) = false := by simp; omega
  have HR := Lib.hid hr
  clear hk hg hlo hr
  go_enter Tryd.func26, Tryd.ntmps26
  go_wp2_with fail
  refine (HK.out _).mono ?_
  rintro e w1 ⟨rfl, hb1⟩
  have HB1 := Lib.hid (hbt (below_al _ _) hb1)
  have HO1 := Lib.hid (spec_at hb1)
  obtain ⟨c0, c1, c2, c3, c4⟩ := obj_cells5 HO1.out
  clear hb1
  go_wp2_with fail
  refine (HG.out _).mono ?_
  rintro e w2 ⟨rfl, hb2⟩
  have HB2 := Lib.hid (hbt HB1.out hb2)
  have HO2 := Lib.hid (obj_below HO1.out hb2)
  clear hb2 c0 c1 c2 c3 c4
  obtain ⟨c0, c1, c2, c3, c4⟩ := obj_cells5 HO2.out
  go_wp2_with fail
  refine (HR.out _).mono ?_
  rintro e w3 ⟨rfl, hb3⟩
  have HB3 := Lib.hid (hbt HB2.out hb3)
  have HO3 := Lib.hid (obj_below HO2.out hb3)
  clear hb3 c0 c1 c2 c3 c4
  obtain ⟨c0, c1, c2, c3, c4⟩ := obj_cells5 HO3.out
  go_wp2
  go_ret3
  exact ⟨rfl, HB3.out⟩
set_option linter.unusedVariables false in
set_option maxRecDepth 100000 in
set_option maxHeartbeats 1600000 in
theorem crg_vc_val (n lo hi f : Int) (p a q z : Nat) (s : ByteArray) (w : World)
    (hs : s.size ≤ 1000000) (hp : p ≤ s.size) (ha : a ≤ 999) (hq : q ≤ s.size) (hf : (f != 1) = true) (hlo : ¬ ((a : Int) < lo ∨ hi < (a : Int)))
    (hzq : ((a : Int) + 1) / 2 = (z : Int))
    (hk : ∀ W, Calls Tryd.prog 51 #[.agg #[.int .i64 n, .int .i64 1, .int .i64 f, .int .i64 lo, .int .i64 hi]] W fun e w' => e = .returned (.int .i64 0) ∧ Below W.heap.size W w')
    (hg : ∀ W, Calls Tryd.prog 52 #[.int .i64 2, .int .i64 f, .string s, .int .i64 (p : Int)] W fun e w' => e = .returned (.tuple #[.int .i64 (a : Int), .int .i64 (q : Int), .int .i64 0]) ∧ Below W.heap.size W w')
    (h : q + z ≤ s.size)
    (t : ByteArray) (y : Int)
    (hr : ∀ W, Calls Tryd.prog 22 #[.string (s.extract q (q + z)), .int .i64 (a : Int)] W fun e w' => e = .returned (.tuple #[.string t, .int .i64 0, .int .i64 y]) ∧ Below W.heap.size W w')
    (x : Int) (hx : (x != 0) = true)
    (hv : ∀ W, Calls Tryd.prog 54 #[.agg #[.int .i64 n, .int .i64 1, .int .i64 f, .int .i64 lo, .int .i64 hi], .string t] W fun e w' => e = .returned (.int .i64 x) ∧ Below W.heap.size W w') :
    Calls Tryd.prog 26 #[.int .i64 2, .agg #[.int .i64 n, .int .i64 1, .int .i64 f, .int .i64 lo, .int .i64 hi], .string s, .int .i64 (p : Int)] w fun e w' => e = .returned (.tuple #[.string ⟨#[]⟩, .int .i64 0, .int .i64 x]) ∧ Below w.heap.size w w' := by
  have HK := Lib.hid hk
  have t1 : decide ((p : Int) < 0) = false := by simp
  have t2 : decide (s.size < p) = false := by simp; omega
  have HG := Lib.hid hg
  have t3 : decide ((a : Int) < lo) = false := by simp; omega
  have t4 : decide (hi < (a : Int)) = false := by simp; omega
  have hzb : z ≤ 2000 := by omega
  have t5 : decide ((s.size : Int) - (q : Int) < (z : Int)) = false := by simp; omega
  have HR := Lib.hid hr
  have HV := Lib.hid hv
  clear hk hg hlo hv hr
  go_enter Tryd.func26, Tryd.ntmps26
  go_wp2_with fail
  refine (HK.out _).mono ?_
  rintro e w1 ⟨rfl, hb1⟩
  have HB1 := Lib.hid (hbt (below_al _ _) hb1)
  have HO1 := Lib.hid (spec_at hb1)
  obtain ⟨c0, c1, c2, c3, c4⟩ := obj_cells5 HO1.out
  clear hb1
  go_wp2_with fail
  refine (HG.out _).mono ?_
  rintro e w2 ⟨rfl, hb2⟩
  have HB2 := Lib.hid (hbt HB1.out hb2)
  have HO2 := Lib.hid (obj_below HO1.out hb2)
  clear hb2 c0 c1 c2 c3 c4
  obtain ⟨c0, c1, c2, c3, c4⟩ := obj_cells5 HO2.out
  go_wp2_with fail
  refine (HR.out _).mono ?_
  rintro e w3 ⟨rfl, hb3⟩
  have HB3 := Lib.hid (hbt HB2.out hb3)
  have HO3 := Lib.hid (obj_below HO2.out hb3)
  clear hb3 c0 c1 c2 c3 c4
  obtain ⟨c0, c1, c2, c3, c4⟩ := obj_cells5 HO3.out
  go_wp2_with fail
  refine (HV.out _).mono ?_
  rintro e w4 ⟨rfl, hb4⟩
  have HB4 := Lib.hid (hbt HB3.out hb4)
  have HO4 := Lib.hid (obj_below HO3.out hb4)
  clear hb4 c0 c1 c2 c3 c4
  obtain ⟨c0, c1, c2, c3, c4⟩ := obj_cells5 HO4.out
  go_wp2
  go_ret3
  exact ⟨rfl, HB4.out⟩
set_option linter.unusedVariables false in
set_option maxRecDepth 100000 in
set_option maxHeartbeats 1600000 in
theorem crg_vc_ok (n lo hi f : Int) (p a q z : Nat) (s : ByteArray) (w : World)
    (hs : s.size ≤ 1000000) (hp : p ≤ s.size) (ha : a ≤ 999) (hq : q ≤ s.size) (hf : (f != 1) = true) (hlo : ¬ ((a : Int) < lo ∨ hi < (a : Int)))
    (hzq : ((a : Int) + 1) / 2 = (z : Int))
    (hk : ∀ W, Calls Tryd.prog 51 #[.agg #[.int .i64 n, .int .i64 1, .int .i64 f, .int .i64 lo, .int .i64 hi]] W fun e w' => e = .returned (.int .i64 0) ∧ Below W.heap.size W w')
    (hg : ∀ W, Calls Tryd.prog 52 #[.int .i64 2, .int .i64 f, .string s, .int .i64 (p : Int)] W fun e w' => e = .returned (.tuple #[.int .i64 (a : Int), .int .i64 (q : Int), .int .i64 0]) ∧ Below W.heap.size W w')
    (h : q + z ≤ s.size)
    (t : ByteArray) (y : Int)
    (hr : ∀ W, Calls Tryd.prog 22 #[.string (s.extract q (q + z)), .int .i64 (a : Int)] W fun e w' => e = .returned (.tuple #[.string t, .int .i64 0, .int .i64 y]) ∧ Below W.heap.size W w')
    (hv : ∀ W, Calls Tryd.prog 54 #[.agg #[.int .i64 n, .int .i64 1, .int .i64 f, .int .i64 lo, .int .i64 hi], .string t] W fun e w' => e = .returned (.int .i64 0) ∧ Below W.heap.size W w') :
    Calls Tryd.prog 26 #[.int .i64 2, .agg #[.int .i64 n, .int .i64 1, .int .i64 f, .int .i64 lo, .int .i64 hi], .string s, .int .i64 (p : Int)] w fun e w' => e = .returned (.tuple #[.string t, .int .i64 ((q + z : Nat) : Int), .int .i64 0]) ∧ Below w.heap.size w w' := by
  have HK := Lib.hid hk
  have t1 : decide ((p : Int) < 0) = false := by simp
  have t2 : decide (s.size < p) = false := by simp; omega
  have HG := Lib.hid hg
  have t3 : decide ((a : Int) < lo) = false := by simp; omega
  have t4 : decide (hi < (a : Int)) = false := by simp; omega
  have hzb : z ≤ 2000 := by omega
  have t5 : decide ((s.size : Int) - (q : Int) < (z : Int)) = false := by simp; omega
  have HR := Lib.hid hr
  have HV := Lib.hid hv
  clear hk hg hlo hv hr
  go_enter Tryd.func26, Tryd.ntmps26
  go_wp2_with fail
  refine (HK.out _).mono ?_
  rintro e w1 ⟨rfl, hb1⟩
  have HB1 := Lib.hid (hbt (below_al _ _) hb1)
  have HO1 := Lib.hid (spec_at hb1)
  obtain ⟨c0, c1, c2, c3, c4⟩ := obj_cells5 HO1.out
  clear hb1
  go_wp2_with fail
  refine (HG.out _).mono ?_
  rintro e w2 ⟨rfl, hb2⟩
  have HB2 := Lib.hid (hbt HB1.out hb2)
  have HO2 := Lib.hid (obj_below HO1.out hb2)
  clear hb2 c0 c1 c2 c3 c4
  obtain ⟨c0, c1, c2, c3, c4⟩ := obj_cells5 HO2.out
  go_wp2_with fail
  refine (HR.out _).mono ?_
  rintro e w3 ⟨rfl, hb3⟩
  have HB3 := Lib.hid (hbt HB2.out hb3)
  have HO3 := Lib.hid (obj_below HO2.out hb3)
  clear hb3 c0 c1 c2 c3 c4
  obtain ⟨c0, c1, c2, c3, c4⟩ := obj_cells5 HO3.out
  go_wp2_with fail
  refine (HV.out _).mono ?_
  rintro e w4 ⟨rfl, hb4⟩
  have HB4 := Lib.hid (hbt HB3.out hb4)
  have HO4 := Lib.hid (obj_below HO3.out hb4)
  clear hb4 c0 c1 c2 c3 c4
  obtain ⟨c0, c1, c2, c3, c4⟩ := obj_cells5 HO4.out
  go_wp2
  go_ret3
  exact ⟨rfl, HB4.out⟩
set_option linter.unusedVariables false in
set_option maxRecDepth 100000 in
set_option maxHeartbeats 1600000 in
theorem crg_vd_cut (n c lo hi f : Int) (p a q : Nat) (s : ByteArray) (w : World)
    (hs : s.size ≤ 1000000) (hp : p ≤ s.size) (ha : a ≤ 999) (hq : q ≤ s.size) (hf : (f != 1) = true) (hlo : ¬ ((a : Int) < lo ∨ hi < (a : Int)))
    (hc : (c == 1) = false)
    (hk : ∀ W, Calls Tryd.prog 51 #[.agg #[.int .i64 n, .int .i64 c, .int .i64 f, .int .i64 lo, .int .i64 hi]] W fun e w' => e = .returned (.int .i64 0) ∧ Below W.heap.size W w')
    (hg : ∀ W, Calls Tryd.prog 52 #[.int .i64 2, .int .i64 f, .string s, .int .i64 (p : Int)] W fun e w' => e = .returned (.tuple #[.int .i64 (a : Int), .int .i64 (q : Int), .int .i64 0]) ∧ Below W.heap.size W w')
    (h : s.size < q + a) :
    Calls Tryd.prog 26 #[.int .i64 2, .agg #[.int .i64 n, .int .i64 c, .int .i64 f, .int .i64 lo, .int .i64 hi], .string s, .int .i64 (p : Int)] w fun e w' => e = .returned (.tuple #[.string ⟨#[]⟩, .int .i64 0, .int .i64 2]) ∧ Below w.heap.size w w' := by
  have HK := Lib.hid hk
  have t1 : decide ((p : Int) < 0) = false := by simp
  have t2 : decide (s.size < p) = false := by simp; omega
  have HG := Lib.hid hg
  have t3 : decide ((a : Int) < lo) = false := by simp; omega
  have t4 : decide (hi < (a : Int)) = false := by simp; omega
  have t5 : decide ((s.size : Int) - (q : Int) < (a : Int)) = true := by simp; omega
  clear hk hg hlo h
  go_enter Tryd.func26, Tryd.ntmps26
  go_wp2_with fail
  refine (HK.out _).mono ?_
  rintro e w1 ⟨rfl, hb1⟩
  have HB1 := Lib.hid (hbt (below_al _ _) hb1)
  have HO1 := Lib.hid (spec_at hb1)
  obtain ⟨c0, c1, c2, c3, c4⟩ := obj_cells5 HO1.out
  clear hb1
  go_wp2_with fail
  refine (HG.out _).mono ?_
  rintro e w2 ⟨rfl, hb2⟩
  have HB2 := Lib.hid (hbt HB1.out hb2)
  have HO2 := Lib.hid (obj_below HO1.out hb2)
  clear hb2 c0 c1 c2 c3 c4
  obtain ⟨c0, c1, c2, c3, c4⟩ := obj_cells5 HO2.out
  go_wp2
  go_ret3
  exact ⟨rfl, HB2.out⟩
set_option linter.unusedVariables false in
set_option maxRecDepth 100000 in
set_option maxHeartbeats 1600000 in
theorem crg_vd_val (n c lo hi f : Int) (p a q : Nat) (s : ByteArray) (w : World)
    (hs : s.size ≤ 1000000) (hp : p ≤ s.size) (ha : a ≤ 999) (hq : q ≤ s.size) (hf : (f != 1) = true) (hlo : ¬ ((a : Int) < lo ∨ hi < (a : Int)))
    (hc : (c == 1) = false)
    (hk : ∀ W, Calls Tryd.prog 51 #[.agg #[.int .i64 n, .int .i64 c, .int .i64 f, .int .i64 lo, .int .i64 hi]] W fun e w' => e = .returned (.int .i64 0) ∧ Below W.heap.size W w')
    (hg : ∀ W, Calls Tryd.prog 52 #[.int .i64 2, .int .i64 f, .string s, .int .i64 (p : Int)] W fun e w' => e = .returned (.tuple #[.int .i64 (a : Int), .int .i64 (q : Int), .int .i64 0]) ∧ Below W.heap.size W w')
    (h : q + a ≤ s.size)
    (x : Int) (hx : (x != 0) = true)
    (hv : ∀ W, Calls Tryd.prog 54 #[.agg #[.int .i64 n, .int .i64 c, .int .i64 f, .int .i64 lo, .int .i64 hi], .string (s.extract q (q + a))] W fun e w' => e = .returned (.int .i64 x) ∧ Below W.heap.size W w') :
    Calls Tryd.prog 26 #[.int .i64 2, .agg #[.int .i64 n, .int .i64 c, .int .i64 f, .int .i64 lo, .int .i64 hi], .string s, .int .i64 (p : Int)] w fun e w' => e = .returned (.tuple #[.string ⟨#[]⟩, .int .i64 0, .int .i64 x]) ∧ Below w.heap.size w w' := by
  have HK := Lib.hid hk
  have t1 : decide ((p : Int) < 0) = false := by simp
  have t2 : decide (s.size < p) = false := by simp; omega
  have HG := Lib.hid hg
  have t3 : decide ((a : Int) < lo) = false := by simp; omega
  have t4 : decide (hi < (a : Int)) = false := by simp; omega
  have t5 : decide ((s.size : Int) - (q : Int) < (a : Int)) = false := by simp; omega
  have HV := Lib.hid hv
  clear hk hg hlo hv
  go_enter Tryd.func26, Tryd.ntmps26
  go_wp2_with fail
  refine (HK.out _).mono ?_
  rintro e w1 ⟨rfl, hb1⟩
  have HB1 := Lib.hid (hbt (below_al _ _) hb1)
  have HO1 := Lib.hid (spec_at hb1)
  obtain ⟨c0, c1, c2, c3, c4⟩ := obj_cells5 HO1.out
  clear hb1
  go_wp2_with fail
  refine (HG.out _).mono ?_
  rintro e w2 ⟨rfl, hb2⟩
  have HB2 := Lib.hid (hbt HB1.out hb2)
  have HO2 := Lib.hid (obj_below HO1.out hb2)
  clear hb2 c0 c1 c2 c3 c4
  obtain ⟨c0, c1, c2, c3, c4⟩ := obj_cells5 HO2.out
  go_wp2_with fail
  refine (HV.out _).mono ?_
  rintro e w3 ⟨rfl, hb3⟩
  have HB3 := Lib.hid (hbt HB2.out hb3)
  have HO3 := Lib.hid (obj_below HO2.out hb3)
  clear hb3 c0 c1 c2 c3 c4
  obtain ⟨c0, c1, c2, c3, c4⟩ := obj_cells5 HO3.out
  go_wp2
  go_ret3
  exact ⟨rfl, HB3.out⟩
set_option linter.unusedVariables false in
set_option maxRecDepth 100000 in
set_option maxHeartbeats 1600000 in
theorem crg_vd_ok (n c lo hi f : Int) (p a q : Nat) (s : ByteArray) (w : World)
    (hs : s.size ≤ 1000000) (hp : p ≤ s.size) (ha : a ≤ 999) (hq : q ≤ s.size) (hf : (f != 1) = true) (hlo : ¬ ((a : Int) < lo ∨ hi < (a : Int)))
    (hc : (c == 1) = false)
    (hk : ∀ W, Calls Tryd.prog 51 #[.agg #[.int .i64 n, .int .i64 c, .int .i64 f, .int .i64 lo, .int .i64 hi]] W fun e w' => e = .returned (.int .i64 0) ∧ Below W.heap.size W w')
    (hg : ∀ W, Calls Tryd.prog 52 #[.int .i64 2, .int .i64 f, .string s, .int .i64 (p : Int)] W fun e w' => e = .returned (.tuple #[.int .i64 (a : Int), .int .i64 (q : Int), .int .i64 0]) ∧ Below W.heap.size W w')
    (h : q + a ≤ s.size)
    (hv : ∀ W, Calls Tryd.prog 54 #[.agg #[.int .i64 n, .int .i64 c, .int .i64 f, .int .i64 lo, .int .i64 hi], .string (s.extract q (q + a))] W fun e w' => e = .returned (.int .i64 0) ∧ Below W.heap.size W w') :
    Calls Tryd.prog 26 #[.int .i64 2, .agg #[.int .i64 n, .int .i64 c, .int .i64 f, .int .i64 lo, .int .i64 hi], .string s, .int .i64 (p : Int)] w fun e w' => e = .returned (.tuple #[.string (s.extract q (q + a)), .int .i64 ((q + a : Nat) : Int), .int .i64 0]) ∧ Below w.heap.size w w' := by
  have HK := Lib.hid hk
  have t1 : decide ((p : Int) < 0) = false := by simp
  have t2 : decide (s.size < p) = false := by simp; omega
  have HG := Lib.hid hg
  have t3 : decide ((a : Int) < lo) = false := by simp; omega
  have t4 : decide (hi < (a : Int)) = false := by simp; omega
  have t5 : decide ((s.size : Int) - (q : Int) < (a : Int)) = false := by simp; omega
  have HV := Lib.hid hv
  clear hk hg hlo hv
  go_enter Tryd.func26, Tryd.ntmps26
  go_wp2_with fail
  refine (HK.out _).mono ?_
  rintro e w1 ⟨rfl, hb1⟩
  have HB1 := Lib.hid (hbt (below_al _ _) hb1)
  have HO1 := Lib.hid (spec_at hb1)
  obtain ⟨c0, c1, c2, c3, c4⟩ := obj_cells5 HO1.out
  clear hb1
  go_wp2_with fail
  refine (HG.out _).mono ?_
  rintro e w2 ⟨rfl, hb2⟩
  have HB2 := Lib.hid (hbt HB1.out hb2)
  have HO2 := Lib.hid (obj_below HO1.out hb2)
  clear hb2 c0 c1 c2 c3 c4
  obtain ⟨c0, c1, c2, c3, c4⟩ := obj_cells5 HO2.out
  go_wp2_with fail
  refine (HV.out _).mono ?_
  rintro e w3 ⟨rfl, hb3⟩
  have HB3 := Lib.hid (hbt HB2.out hb3)
  have HO3 := Lib.hid (obj_below HO2.out hb3)
  clear hb3 c0 c1 c2 c3 c4
  obtain ⟨c0, c1, c2, c3, c4⟩ := obj_cells5 HO3.out
  go_wp2
  go_ret3
  exact ⟨rfl, HB3.out⟩


end Go.Proofs.YtlkpiapmdflahaaDoor

/-
  What the document's Get answers: for every style, spec, text and place.
-/
namespace Go.Proofs.YtlkpiapmdflahaaDoor
open Go.RowKit

set_option linter.unusedVariables false in
set_option maxRecDepth 100000 in
set_option maxHeartbeats 1600000 in
theorem crg_style (st n c f lo hi p : Int) (s : ByteArray) (w : World) (h : st ≠ 1 ∧ st ≠ 2) :
    Calls Tryd.prog 26 #[.int .i64 st, .agg #[.int .i64 n, .int .i64 c, .int .i64 f, .int .i64 lo, .int .i64 hi], .string s, .int .i64 p] w fun e w' => e = .returned (.tuple #[.string ⟨#[]⟩, .int .i64 0, .int .i64 1]) ∧ Below w.heap.size w w' := by
  have t1 : (st != 1) = true := by simpa using h.1
  have t2 : (st != 2) = true := by simpa using h.2
  clear h
  go_enter Tryd.func26, Tryd.ntmps26
  go_wp2
  go_ret3
  exact ⟨rfl, below_al _ _⟩
set_option linter.unusedVariables false in
set_option maxRecDepth 100000 in
set_option maxHeartbeats 1600000 in
theorem crg_check1 (n c f lo hi p : Int) (s : ByteArray) (w : World) (h : spk n c f lo hi ≠ 0) :
    Calls Tryd.prog 26 #[.int .i64 1, .agg #[.int .i64 n, .int .i64 c, .int .i64 f, .int .i64 lo, .int .i64 hi], .string s, .int .i64 p] w fun e w' => e = .returned (.tuple #[.string ⟨#[]⟩, .int .i64 0, .int .i64 1]) ∧ Below w.heap.size w w' := by
  have HC := Lib.hid (fun W => sprefCheck_any n c f lo hi W)
  generalize spk n c f lo hi = x at *
  have t1 : (x != 0) = true := by simpa using h
  clear h
  go_enter Tryd.func26, Tryd.ntmps26
  go_wp2_with fail
  refine (HC.out _).mono ?_
  rintro e w1 ⟨rfl, hb1⟩
  have HB1 := Lib.hid (hbt (below_al _ _) hb1)
  have HO1 := Lib.hid (spec_at hb1)
  obtain ⟨c0, c1, c2, c3, c4⟩ := obj_cells5 HO1.out
  clear hb1
  go_wp2
  go_ret3
  exact ⟨rfl, HB1.out⟩
set_option linter.unusedVariables false in
set_option maxRecDepth 100000 in
set_option maxHeartbeats 1600000 in
theorem crg_low1 (n c f lo hi p : Int) (s : ByteArray) (w : World) (hk : spk n c f lo hi = 0) (h : p < 0) :
    Calls Tryd.prog 26 #[.int .i64 1, .agg #[.int .i64 n, .int .i64 c, .int .i64 f, .int .i64 lo, .int .i64 hi], .string s, .int .i64 p] w fun e w' => e = .returned (.tuple #[.string ⟨#[]⟩, .int .i64 0, .int .i64 1]) ∧ Below w.heap.size w w' := by
  have HC := Lib.hid (fun W => sprefCheck_any n c f lo hi W)
  rw [hk] at HC
  have t1 : decide (p < 0) = true := by simpa using h
  clear h hk
  go_enter Tryd.func26, Tryd.ntmps26
  go_wp2_with fail
  refine (HC.out _).mono ?_
  rintro e w1 ⟨rfl, hb1⟩
  have HB1 := Lib.hid (hbt (below_al _ _) hb1)
  have HO1 := Lib.hid (spec_at hb1)
  obtain ⟨c0, c1, c2, c3, c4⟩ := obj_cells5 HO1.out
  clear hb1
  go_wp2
  go_ret3
  exact ⟨rfl, HB1.out⟩
set_option linter.unusedVariables false in
set_option maxRecDepth 100000 in
set_option maxHeartbeats 1600000 in
theorem crg_high1 (n c f lo hi p : Int) (s : ByteArray) (w : World) (hk : spk n c f lo hi = 0) (h : (s.size : Int) < p) :
    Calls Tryd.prog 26 #[.int .i64 1, .agg #[.int .i64 n, .int .i64 c, .int .i64 f, .int .i64 lo, .int .i64 hi], .string s, .int .i64 p] w fun e w' => e = .returned (.tuple #[.string ⟨#[]⟩, .int .i64 0, .int .i64 1]) ∧ Below w.heap.size w w' := by
  have HC := Lib.hid (fun W => sprefCheck_any n c f lo hi W)
  rw [hk] at HC
  have t1 : decide (p < 0) = false := by simp; omega
  have t2 : decide ((s.size : Int) < p) = true := by simpa using h
  clear h hk
  go_enter Tryd.func26, Tryd.ntmps26
  go_wp2_with fail
  refine (HC.out _).mono ?_
  rintro e w1 ⟨rfl, hb1⟩
  have HB1 := Lib.hid (hbt (below_al _ _) hb1)
  have HO1 := Lib.hid (spec_at hb1)
  obtain ⟨c0, c1, c2, c3, c4⟩ := obj_cells5 HO1.out
  clear hb1
  go_wp2
  go_ret3
  exact ⟨rfl, HB1.out⟩
set_option linter.unusedVariables false in
set_option maxRecDepth 100000 in
set_option maxHeartbeats 1600000 in
theorem crg_err1 (n c f lo hi : Int) (p a q : Nat) (s : ByteArray) (w : World) (hf : (f != 1) = true) (hk : spk n c f lo hi = 0) (hs : s.size ≤ 1000000) (hp : p ≤ s.size) (x : Nat) (hx : x ≠ 0)
    (hg : ∀ W, Calls Tryd.prog 52 #[.int .i64 1, .int .i64 f, .string s, .int .i64 (p : Int)] W fun e w' => e = .returned (.tuple #[.int .i64 (a : Int), .int .i64 (q : Int), .int .i64 (x : Int)]) ∧ Below W.heap.size W w') :
    Calls Tryd.prog 26 #[.int .i64 1, .agg #[.int .i64 n, .int .i64 c, .int .i64 f, .int .i64 lo, .int .i64 hi], .string s, .int .i64 (p : Int)] w fun e w' => e = .returned (.tuple #[.string ⟨#[]⟩, .int .i64 0, .int .i64 (x : Int)]) ∧ Below w.heap.size w w' := by
  have HC := Lib.hid (fun W => sprefCheck_any n c f lo hi W)
  rw [hk] at HC
  have HG := Lib.hid hg
  have t1 : decide ((p : Int) < 0) = false := by simp
  have t2 : decide (s.size < p) = false := by simp; omega
  have t3 : ((x : Int) != 0) = true := by simpa using hx
  clear hg hk hx hp
  go_enter Tryd.func26, Tryd.ntmps26
  go_wp2_with fail
  refine (HC.out _).mono ?_
  rintro e w1 ⟨rfl, hb1⟩
  have HB1 := Lib.hid (hbt (below_al _ _) hb1)
  have HO1 := Lib.hid (spec_at hb1)
  obtain ⟨c0, c1, c2, c3, c4⟩ := obj_cells5 HO1.out
  clear hb1
  go_wp2_with fail
  refine (HG.out _).mono ?_
  rintro e w2 ⟨rfl, hb2⟩
  have HB2 := Lib.hid (hbt HB1.out hb2)
  have HO2 := Lib.hid (obj_below HO1.out hb2)
  clear hb2 c0 c1 c2 c3 c4
  obtain ⟨c0, c1, c2, c3, c4⟩ := obj_cells5 HO2.out
  go_wp2
  go_ret3
  exact ⟨rfl, HB2.out⟩
set_option linter.unusedVariables false in
set_option maxRecDepth 100000 in
set_option maxHeartbeats 1600000 in
theorem crg_few1 (n c f lo hi : Int) (p a q : Nat) (s : ByteArray) (w : World) (hf : (f != 1) = true) (hk : spk n c f lo hi = 0) (hs : s.size ≤ 1000000) (hp : p ≤ s.size) (h : (a : Int) < lo)
    (hg : ∀ W, Calls Tryd.prog 52 #[.int .i64 1, .int .i64 f, .string s, .int .i64 (p : Int)] W fun e w' => e = .returned (.tuple #[.int .i64 (a : Int), .int .i64 (q : Int), .int .i64 0]) ∧ Below W.heap.size W w') :
    Calls Tryd.prog 26 #[.int .i64 1, .agg #[.int .i64 n, .int .i64 c, .int .i64 f, .int .i64 lo, .int .i64 hi], .string s, .int .i64 (p : Int)] w fun e w' => e = .returned (.tuple #[.string ⟨#[]⟩, .int .i64 0, .int .i64 5]) ∧ Below w.heap.size w w' := by
  have HC := Lib.hid (fun W => sprefCheck_any n c f lo hi W)
  rw [hk] at HC
  have HG := Lib.hid hg
  have t1 : decide ((p : Int) < 0) = false := by simp
  have t2 : decide (s.size < p) = false := by simp; omega
  have t3 : decide ((a : Int) < lo) = true := by simpa using h
  clear hg hk h hp
  go_enter Tryd.func26, Tryd.ntmps26
  go_wp2_with fail
  refine (HC.out _).mono ?_
  rintro e w1 ⟨rfl, hb1⟩
  have HB1 := Lib.hid (hbt (below_al _ _) hb1)
  have HO1 := Lib.hid (spec_at hb1)
  obtain ⟨c0, c1, c2, c3, c4⟩ := obj_cells5 HO1.out
  clear hb1
  go_wp2_with fail
  refine (HG.out _).mono ?_
  rintro e w2 ⟨rfl, hb2⟩
  have HB2 := Lib.hid (hbt HB1.out hb2)
  have HO2 := Lib.hid (obj_below HO1.out hb2)
  clear hb2 c0 c1 c2 c3 c4
  obtain ⟨c0, c1, c2, c3, c4⟩ := obj_cells5 HO2.out
  go_wp2
  go_ret3
  exact ⟨rfl, HB2.out⟩
set_option linter.unusedVariables false in
set_option maxRecDepth 100000 in
set_option maxHeartbeats 1600000 in
theorem crg_many1 (n c f lo hi : Int) (p a q : Nat) (s : ByteArray) (w : World) (hf : (f != 1) = true) (hk : spk n c f lo hi = 0) (hs : s.size ≤ 1000000) (hp : p ≤ s.size) (h : hi < (a : Int)) (hn : ¬ (a : Int) < lo)
    (hg : ∀ W, Calls Tryd.prog 52 #[.int .i64 1, .int .i64 f, .string s, .int .i64 (p : Int)] W fun e w' => e = .returned (.tuple #[.int .i64 (a : Int), .int .i64 (q : Int), .int .i64 0]) ∧ Below W.heap.size W w') :
    Calls Tryd.prog 26 #[.int .i64 1, .agg #[.int .i64 n, .int .i64 c, .int .i64 f, .int .i64 lo, .int .i64 hi], .string s, .int .i64 (p : Int)] w fun e w' => e = .returned (.tuple #[.string ⟨#[]⟩, .int .i64 0, .int .i64 5]) ∧ Below w.heap.size w w' := by
  have HC := Lib.hid (fun W => sprefCheck_any n c f lo hi W)
  rw [hk] at HC
  have HG := Lib.hid hg
  have t1 : decide ((p : Int) < 0) = false := by simp
  have t2 : decide (s.size < p) = false := by simp; omega
  have t3 : decide ((a : Int) < lo) = false := by simpa using hn
  have t4 : decide (hi < (a : Int)) = true := by simpa using h
  clear hg hk h hp hn
  go_enter Tryd.func26, Tryd.ntmps26
  go_wp2_with fail
  refine (HC.out _).mono ?_
  rintro e w1 ⟨rfl, hb1⟩
  have HB1 := Lib.hid (hbt (below_al _ _) hb1)
  have HO1 := Lib.hid (spec_at hb1)
  obtain ⟨c0, c1, c2, c3, c4⟩ := obj_cells5 HO1.out
  clear hb1
  go_wp2_with fail
  refine (HG.out _).mono ?_
  rintro e w2 ⟨rfl, hb2⟩
  have HB2 := Lib.hid (hbt HB1.out hb2)
  have HO2 := Lib.hid (obj_below HO1.out hb2)
  clear hb2 c0 c1 c2 c3 c4
  obtain ⟨c0, c1, c2, c3, c4⟩ := obj_cells5 HO2.out
  go_wp2
  go_ret3
  exact ⟨rfl, HB2.out⟩
set_option linter.unusedVariables false in
set_option maxRecDepth 100000 in
set_option maxHeartbeats 1600000 in
theorem crg_check2 (n c f lo hi p : Int) (s : ByteArray) (w : World) (h : spk n c f lo hi ≠ 0) :
    Calls Tryd.prog 26 #[.int .i64 2, .agg #[.int .i64 n, .int .i64 c, .int .i64 f, .int .i64 lo, .int .i64 hi], .string s, .int .i64 p] w fun e w' => e = .returned (.tuple #[.string ⟨#[]⟩, .int .i64 0, .int .i64 1]) ∧ Below w.heap.size w w' := by
  have HC := Lib.hid (fun W => sprefCheck_any n c f lo hi W)
  generalize spk n c f lo hi = x at *
  have t1 : (x != 0) = true := by simpa using h
  clear h
  go_enter Tryd.func26, Tryd.ntmps26
  go_wp2_with fail
  refine (HC.out _).mono ?_
  rintro e w1 ⟨rfl, hb1⟩
  have HB1 := Lib.hid (hbt (below_al _ _) hb1)
  have HO1 := Lib.hid (spec_at hb1)
  obtain ⟨c0, c1, c2, c3, c4⟩ := obj_cells5 HO1.out
  clear hb1
  go_wp2
  go_ret3
  exact ⟨rfl, HB1.out⟩
set_option linter.unusedVariables false in
set_option maxRecDepth 100000 in
set_option maxHeartbeats 1600000 in
theorem crg_low2 (n c f lo hi p : Int) (s : ByteArray) (w : World) (hk : spk n c f lo hi = 0) (h : p < 0) :
    Calls Tryd.prog 26 #[.int .i64 2, .agg #[.int .i64 n, .int .i64 c, .int .i64 f, .int .i64 lo, .int .i64 hi], .string s, .int .i64 p] w fun e w' => e = .returned (.tuple #[.string ⟨#[]⟩, .int .i64 0, .int .i64 1]) ∧ Below w.heap.size w w' := by
  have HC := Lib.hid (fun W => sprefCheck_any n c f lo hi W)
  rw [hk] at HC
  have t1 : decide (p < 0) = true := by simpa using h
  clear h hk
  go_enter Tryd.func26, Tryd.ntmps26
  go_wp2_with fail
  refine (HC.out _).mono ?_
  rintro e w1 ⟨rfl, hb1⟩
  have HB1 := Lib.hid (hbt (below_al _ _) hb1)
  have HO1 := Lib.hid (spec_at hb1)
  obtain ⟨c0, c1, c2, c3, c4⟩ := obj_cells5 HO1.out
  clear hb1
  go_wp2
  go_ret3
  exact ⟨rfl, HB1.out⟩
set_option linter.unusedVariables false in
set_option maxRecDepth 100000 in
set_option maxHeartbeats 1600000 in
theorem crg_high2 (n c f lo hi p : Int) (s : ByteArray) (w : World) (hk : spk n c f lo hi = 0) (h : (s.size : Int) < p) :
    Calls Tryd.prog 26 #[.int .i64 2, .agg #[.int .i64 n, .int .i64 c, .int .i64 f, .int .i64 lo, .int .i64 hi], .string s, .int .i64 p] w fun e w' => e = .returned (.tuple #[.string ⟨#[]⟩, .int .i64 0, .int .i64 1]) ∧ Below w.heap.size w w' := by
  have HC := Lib.hid (fun W => sprefCheck_any n c f lo hi W)
  rw [hk] at HC
  have t1 : decide (p < 0) = false := by simp; omega
  have t2 : decide ((s.size : Int) < p) = true := by simpa using h
  clear h hk
  go_enter Tryd.func26, Tryd.ntmps26
  go_wp2_with fail
  refine (HC.out _).mono ?_
  rintro e w1 ⟨rfl, hb1⟩
  have HB1 := Lib.hid (hbt (below_al _ _) hb1)
  have HO1 := Lib.hid (spec_at hb1)
  obtain ⟨c0, c1, c2, c3, c4⟩ := obj_cells5 HO1.out
  clear hb1
  go_wp2
  go_ret3
  exact ⟨rfl, HB1.out⟩
set_option linter.unusedVariables false in
set_option maxRecDepth 100000 in
set_option maxHeartbeats 1600000 in
theorem crg_err2 (n c f lo hi : Int) (p a q : Nat) (s : ByteArray) (w : World) (hf : (f != 1) = true) (hk : spk n c f lo hi = 0) (hs : s.size ≤ 1000000) (hp : p ≤ s.size) (x : Nat) (hx : x ≠ 0)
    (hg : ∀ W, Calls Tryd.prog 52 #[.int .i64 2, .int .i64 f, .string s, .int .i64 (p : Int)] W fun e w' => e = .returned (.tuple #[.int .i64 (a : Int), .int .i64 (q : Int), .int .i64 (x : Int)]) ∧ Below W.heap.size W w') :
    Calls Tryd.prog 26 #[.int .i64 2, .agg #[.int .i64 n, .int .i64 c, .int .i64 f, .int .i64 lo, .int .i64 hi], .string s, .int .i64 (p : Int)] w fun e w' => e = .returned (.tuple #[.string ⟨#[]⟩, .int .i64 0, .int .i64 (x : Int)]) ∧ Below w.heap.size w w' := by
  have HC := Lib.hid (fun W => sprefCheck_any n c f lo hi W)
  rw [hk] at HC
  have HG := Lib.hid hg
  have t1 : decide ((p : Int) < 0) = false := by simp
  have t2 : decide (s.size < p) = false := by simp; omega
  have t3 : ((x : Int) != 0) = true := by simpa using hx
  clear hg hk hx hp
  go_enter Tryd.func26, Tryd.ntmps26
  go_wp2_with fail
  refine (HC.out _).mono ?_
  rintro e w1 ⟨rfl, hb1⟩
  have HB1 := Lib.hid (hbt (below_al _ _) hb1)
  have HO1 := Lib.hid (spec_at hb1)
  obtain ⟨c0, c1, c2, c3, c4⟩ := obj_cells5 HO1.out
  clear hb1
  go_wp2_with fail
  refine (HG.out _).mono ?_
  rintro e w2 ⟨rfl, hb2⟩
  have HB2 := Lib.hid (hbt HB1.out hb2)
  have HO2 := Lib.hid (obj_below HO1.out hb2)
  clear hb2 c0 c1 c2 c3 c4
  obtain ⟨c0, c1, c2, c3, c4⟩ := obj_cells5 HO2.out
  go_wp2
  go_ret3
  exact ⟨rfl, HB2.out⟩
set_option linter.unusedVariables false in
set_option maxRecDepth 100000 in
set_option maxHeartbeats 1600000 in
theorem crg_few2 (n c f lo hi : Int) (p a q : Nat) (s : ByteArray) (w : World) (hf : (f != 1) = true) (hk : spk n c f lo hi = 0) (hs : s.size ≤ 1000000) (hp : p ≤ s.size) (h : (a : Int) < lo)
    (hg : ∀ W, Calls Tryd.prog 52 #[.int .i64 2, .int .i64 f, .string s, .int .i64 (p : Int)] W fun e w' => e = .returned (.tuple #[.int .i64 (a : Int), .int .i64 (q : Int), .int .i64 0]) ∧ Below W.heap.size W w') :
    Calls Tryd.prog 26 #[.int .i64 2, .agg #[.int .i64 n, .int .i64 c, .int .i64 f, .int .i64 lo, .int .i64 hi], .string s, .int .i64 (p : Int)] w fun e w' => e = .returned (.tuple #[.string ⟨#[]⟩, .int .i64 0, .int .i64 5]) ∧ Below w.heap.size w w' := by
  have HC := Lib.hid (fun W => sprefCheck_any n c f lo hi W)
  rw [hk] at HC
  have HG := Lib.hid hg
  have t1 : decide ((p : Int) < 0) = false := by simp
  have t2 : decide (s.size < p) = false := by simp; omega
  have t3 : decide ((a : Int) < lo) = true := by simpa using h
  clear hg hk h hp
  go_enter Tryd.func26, Tryd.ntmps26
  go_wp2_with fail
  refine (HC.out _).mono ?_
  rintro e w1 ⟨rfl, hb1⟩
  have HB1 := Lib.hid (hbt (below_al _ _) hb1)
  have HO1 := Lib.hid (spec_at hb1)
  obtain ⟨c0, c1, c2, c3, c4⟩ := obj_cells5 HO1.out
  clear hb1
  go_wp2_with fail
  refine (HG.out _).mono ?_
  rintro e w2 ⟨rfl, hb2⟩
  have HB2 := Lib.hid (hbt HB1.out hb2)
  have HO2 := Lib.hid (obj_below HO1.out hb2)
  clear hb2 c0 c1 c2 c3 c4
  obtain ⟨c0, c1, c2, c3, c4⟩ := obj_cells5 HO2.out
  go_wp2
  go_ret3
  exact ⟨rfl, HB2.out⟩
set_option linter.unusedVariables false in
set_option maxRecDepth 100000 in
set_option maxHeartbeats 1600000 in
theorem crg_many2 (n c f lo hi : Int) (p a q : Nat) (s : ByteArray) (w : World) (hf : (f != 1) = true) (hk : spk n c f lo hi = 0) (hs : s.size ≤ 1000000) (hp : p ≤ s.size) (h : hi < (a : Int)) (hn : ¬ (a : Int) < lo)
    (hg : ∀ W, Calls Tryd.prog 52 #[.int .i64 2, .int .i64 f, .string s, .int .i64 (p : Int)] W fun e w' => e = .returned (.tuple #[.int .i64 (a : Int), .int .i64 (q : Int), .int .i64 0]) ∧ Below W.heap.size W w') :
    Calls Tryd.prog 26 #[.int .i64 2, .agg #[.int .i64 n, .int .i64 c, .int .i64 f, .int .i64 lo, .int .i64 hi], .string s, .int .i64 (p : Int)] w fun e w' => e = .returned (.tuple #[.string ⟨#[]⟩, .int .i64 0, .int .i64 5]) ∧ Below w.heap.size w w' := by
  have HC := Lib.hid (fun W => sprefCheck_any n c f lo hi W)
  rw [hk] at HC
  have HG := Lib.hid hg
  have t1 : decide ((p : Int) < 0) = false := by simp
  have t2 : decide (s.size < p) = false := by simp; omega
  have t3 : decide ((a : Int) < lo) = false := by simpa using hn
  have t4 : decide (hi < (a : Int)) = true := by simpa using h
  clear hg hk h hp hn
  go_enter Tryd.func26, Tryd.ntmps26
  go_wp2_with fail
  refine (HC.out _).mono ?_
  rintro e w1 ⟨rfl, hb1⟩
  have HB1 := Lib.hid (hbt (below_al _ _) hb1)
  have HO1 := Lib.hid (spec_at hb1)
  obtain ⟨c0, c1, c2, c3, c4⟩ := obj_cells5 HO1.out
  clear hb1
  go_wp2_with fail
  refine (HG.out _).mono ?_
  rintro e w2 ⟨rfl, hb2⟩
  have HB2 := Lib.hid (hbt HB1.out hb2)
  have HO2 := Lib.hid (obj_below HO1.out hb2)
  clear hb2 c0 c1 c2 c3 c4
  obtain ⟨c0, c1, c2, c3, c4⟩ := obj_cells5 HO2.out
  go_wp2
  go_ret3
  exact ⟨rfl, HB2.out⟩
set_option linter.unusedVariables false in
theorem crt_xa (n c lo : Int) (p a : Nat) (s : ByteArray) (w : World) (hs : s.size ≤ 1000000) (hp : p ≤ s.size) (ha : a ≤ 999) (hc : c = 5 ∨ c = 6)
    (hk : spk n c 1 lo (a : Int) = 0) (h1 : clen 1 1 lo (a : Int) s.data.toList p = (a, p, 0)) :
    Calls Tryd.prog 26 #[.int .i64 1, .agg #[.int .i64 n, .int .i64 c, .int .i64 1, .int .i64 lo, .int .i64 (a : Int)], .string s, .int .i64 (p : Int)] w fun e w' => e = .returned (cgetV (cget 1 n c 1 lo (a : Int) s p)) ∧ Below w.heap.size w w' := by
  have hway : cway 1 c = 2 := by unfold cway; rw [if_neg (by omega), if_pos ⟨rfl, hc⟩]
  have hz : csz (cway 1 c) a = 2 * a := by rw [hway]; rfl
  have hkk := fun W => sprefCheck_any n c 1 lo (a : Int) W
  rw [hk] at hkk
  obtain ⟨a', q', x', e1, g⟩ := cget_cases 1 n c 1 lo (a : Int) s p
  rw [h1] at e1
  cases e1
  rcases g with hx | ⟨_, h2 | ⟨h2, t, y, h3, _⟩⟩
  · exact absurd rfl hx
  · rw [cget_cut h1 h2]
    rw [hz] at h2
    exact crg_xa_cut n c lo p a (2 * a) s w hs hp ha (by simp; omega) (by omega) hkk h2
  · have hxs : (s.extract p (p + csz (cway 1 c) a)).size = csz (cway 1 c) a := by simp; omega
    have e0 : cread 2 (s.extract p (p + csz (cway 1 c) a)) a = (t, y) := (congrFun (congrFun (congrArg cread hway.symm) _) _).trans h3
    have e3 := congrArg Prod.fst e0
    have e4 := congrArg Prod.snd e0
    have h3s := h3
    clear e0
    have hr := fun W => hrefGet_any (s.extract p (p + csz (cway 1 c) a)) W (by omega)
    change hgetS (s.extract p (p + csz (cway 1 c) a)).data.toList = t at e3
    change (if hgetB (s.extract p (p + csz (cway 1 c) a)).data.toList = true then 0 else 3) = y at e4
    rw [e3] at hr
    cases hB : hgetB (s.extract p (p + csz (cway 1 c) a)).data.toList
    · rw [hB] at hr e4
      obtain rfl : y = 3 := e4.symm
      rw [cget_read h1 h2 h3 (by decide)]
      rw [hz] at h2 hr
      exact crg_xa_read n c lo p a (2 * a) s w hs hp ha (by simp; omega) (by omega) hkk h2 _ _ hr
    · rw [hB] at hr e4
      obtain rfl : y = 0 := e4.symm
      have hv := fun W => sprefValue_any n c 1 lo (a : Int) t W (by have := (cread_spell hxs h3s).1; unfold maxLen; omega)
      by_cases h4 : spv n c 1 lo (a : Int) t = 0
      · rw [cget_ok h1 h2 h3 h4]
        rw [h4] at hv
        rw [hz] at h2 hr ⊢
        exact crg_xa_ok n c lo p a (2 * a) s w hs hp ha (by simp; omega) (by omega) hkk h2 _ _ hr hv
      · rw [cget_val h1 h2 h3 h4]
        rw [hz] at h2 hr
        exact crg_xa_val n c lo p a (2 * a) s w hs hp ha (by simp; omega) (by omega) hkk h2 _ _ hr _ (by simpa using h4) hv
set_option linter.unusedVariables false in
theorem crt_xb (n c lo : Int) (p a : Nat) (s : ByteArray) (w : World) (hs : s.size ≤ 1000000) (hp : p ≤ s.size) (ha : a ≤ 999) (hc : c < 5)
    (hk : spk n c 1 lo (a : Int) = 0) (h1 : clen 1 1 lo (a : Int) s.data.toList p = (a, p, 0)) :
    Calls Tryd.prog 26 #[.int .i64 1, .agg #[.int .i64 n, .int .i64 c, .int .i64 1, .int .i64 lo, .int .i64 (a : Int)], .string s, .int .i64 (p : Int)] w fun e w' => e = .returned (cgetV (cget 1 n c 1 lo (a : Int) s p)) ∧ Below w.heap.size w w' := by
  have hway : cway 1 c = 0 := by unfold cway; rw [if_neg (by omega), if_neg (by omega)]
  have hz : csz (cway 1 c) a = a := by rw [hway]; rfl
  have hkk := fun W => sprefCheck_any n c 1 lo (a : Int) W
  rw [hk] at hkk
  obtain ⟨a', q', x', e1, g⟩ := cget_cases 1 n c 1 lo (a : Int) s p
  rw [h1] at e1
  cases e1
  rcases g with hx | ⟨_, h2 | ⟨h2, t, y, h3, _⟩⟩
  · exact absurd rfl hx
  · rw [cget_cut h1 h2]
    rw [hz] at h2
    exact crg_xb_cut n c lo p a s w hs hp ha (by simp; omega) hkk h2
  · have hxs : (s.extract p (p + csz (cway 1 c) a)).size = csz (cway 1 c) a := by simp; omega
    have e0 : cread 0 (s.extract p (p + csz (cway 1 c) a)) a = (t, y) := (congrFun (congrFun (congrArg cread hway.symm) _) _).trans h3
    have e3 := congrArg Prod.fst e0
    have e4 := congrArg Prod.snd e0
    have h3s := h3
    clear e0
    change s.extract p (p + csz (cway 1 c) a) = t at e3
    change 0 = y at e4
    obtain rfl : y = 0 := e4.symm
    have hv := fun W => sprefValue_any n c 1 lo (a : Int) t W (by have := (cread_spell hxs h3s).1; unfold maxLen; omega)
    by_cases h4 : spv n c 1 lo (a : Int) t = 0
    · rw [cget_ok h1 h2 h3 h4]
      rw [h4] at hv
      subst e3
      rw [hz] at h2 hv ⊢
      exact crg_xb_ok n c lo p a s w hs hp ha (by simp; omega) hkk h2 hv
    · rw [cget_val h1 h2 h3 h4]
      subst e3
      rw [hz] at h2 hv ⊢
      exact crg_xb_val n c lo p a s w hs hp ha (by simp; omega) hkk h2 _ (by rw [hz] at h4; simpa using h4) hv
set_option linter.unusedVariables false in
theorem crt_xc (n lo : Int) (p a : Nat) (s : ByteArray) (w : World) (hs : s.size ≤ 1000000) (hp : p ≤ s.size) (ha : a ≤ 999)
    (hk : spk n 1 1 lo (a : Int) = 0) (h1 : clen 2 1 lo (a : Int) s.data.toList p = (a, p, 0)) :
    Calls Tryd.prog 26 #[.int .i64 2, .agg #[.int .i64 n, .int .i64 1, .int .i64 1, .int .i64 lo, .int .i64 (a : Int)], .string s, .int .i64 (p : Int)] w fun e w' => e = .returned (cgetV (cget 2 n 1 1 lo (a : Int) s p)) ∧ Below w.heap.size w w' := by
  have hway : cway 2 1 = 1 := by rfl
  have hz : csz (cway 2 1) a = (a + 1) / 2 := by rw [hway]; rfl
  have hkk := fun W => sprefCheck_any n 1 1 lo (a : Int) W
  rw [hk] at hkk
  obtain ⟨a', q', x', e1, g⟩ := cget_cases 2 n 1 1 lo (a : Int) s p
  rw [h1] at e1
  cases e1
  rcases g with hx | ⟨_, h2 | ⟨h2, t, y, h3, _⟩⟩
  · exact absurd rfl hx
  · rw [cget_cut h1 h2]
    rw [hz] at h2
    exact crg_xc_cut n lo p a ((a + 1) / 2) s w hs hp ha (by omega) hkk h2
  · have hxs : (s.extract p (p + csz (cway 2 1) a)).size = csz (cway 2 1) a := by simp; omega
    have e0 : cread 1 (s.extract p (p + csz (cway 2 1) a)) a = (t, y) := (congrFun (congrFun (congrArg cread hway.symm) _) _).trans h3
    have e3 := congrArg Prod.fst e0
    have e4 := congrArg Prod.snd e0
    have h3s := h3
    clear e0
    have hr := fun W => brefGet_any (s.extract p (p + csz (cway 2 1) a)) (a : Int) W
    unfold bgetV at hr
    change (⟨(bget (s.extract p (p + csz (cway 2 1) a)).data.toList a).1.toArray⟩ : ByteArray) = t at e3
    change (bget (s.extract p (p + csz (cway 2 1) a)).data.toList a).2.1 = y at e4
    rw [e3, e4] at hr
    by_cases hy : y = 0
    · subst hy
      have hv := fun W => sprefValue_any n 1 1 lo (a : Int) t W (by have := (cread_spell hxs h3s).1; unfold maxLen; omega)
      by_cases h4 : spv n 1 1 lo (a : Int) t = 0
      · rw [cget_ok h1 h2 h3 h4]
        rw [h4] at hv
        rw [hz] at h2 hr ⊢
        exact crg_xc_ok n lo p a ((a + 1) / 2) s w hs hp ha (by omega) hkk h2 _ _ hr hv
      · rw [cget_val h1 h2 h3 h4]
        rw [hz] at h2 hr
        exact crg_xc_val n lo p a ((a + 1) / 2) s w hs hp ha (by omega) hkk h2 _ _ hr _ (by simpa using h4) hv
    · rw [cget_read h1 h2 h3 hy]
      rw [hz] at h2 hr
      exact crg_xc_read n lo p a ((a + 1) / 2) s w hs hp ha (by omega) hkk h2 _ _ _ (by simpa using hy) hr
set_option linter.unusedVariables false in
theorem crt_xd (n c lo : Int) (p a : Nat) (s : ByteArray) (w : World) (hs : s.size ≤ 1000000) (hp : p ≤ s.size) (ha : a ≤ 999) (hc : c ≠ 1)
    (hk : spk n c 1 lo (a : Int) = 0) (h1 : clen 2 1 lo (a : Int) s.data.toList p = (a, p, 0)) :
    Calls Tryd.prog 26 #[.int .i64 2, .agg #[.int .i64 n, .int .i64 c, .int .i64 1, .int .i64 lo, .int .i64 (a : Int)], .string s, .int .i64 (p : Int)] w fun e w' => e = .returned (cgetV (cget 2 n c 1 lo (a : Int) s p)) ∧ Below w.heap.size w w' := by
  have hway : cway 2 c = 0 := by unfold cway; rw [if_neg (by omega), if_neg (by omega)]
  have hz : csz (cway 2 c) a = a := by rw [hway]; rfl
  have hkk := fun W => sprefCheck_any n c 1 lo (a : Int) W
  rw [hk] at hkk
  obtain ⟨a', q', x', e1, g⟩ := cget_cases 2 n c 1 lo (a : Int) s p
  rw [h1] at e1
  cases e1
  rcases g with hx | ⟨_, h2 | ⟨h2, t, y, h3, _⟩⟩
  · exact absurd rfl hx
  · rw [cget_cut h1 h2]
    rw [hz] at h2
    exact crg_xd_cut n c lo p a s w hs hp ha (by simpa using hc) hkk h2
  · have hxs : (s.extract p (p + csz (cway 2 c) a)).size = csz (cway 2 c) a := by simp; omega
    have e0 : cread 0 (s.extract p (p + csz (cway 2 c) a)) a = (t, y) := (congrFun (congrFun (congrArg cread hway.symm) _) _).trans h3
    have e3 := congrArg Prod.fst e0
    have e4 := congrArg Prod.snd e0
    have h3s := h3
    clear e0
    change s.extract p (p + csz (cway 2 c) a) = t at e3
    change 0 = y at e4
    obtain rfl : y = 0 := e4.symm
    have hv := fun W => sprefValue_any n c 1 lo (a : Int) t W (by have := (cread_spell hxs h3s).1; unfold maxLen; omega)
    by_cases h4 : spv n c 1 lo (a : Int) t = 0
    · rw [cget_ok h1 h2 h3 h4]
      rw [h4] at hv
      subst e3
      rw [hz] at h2 hv ⊢
      exact crg_xd_ok n c lo p a s w hs hp ha (by simpa using hc) hkk h2 hv
    · rw [cget_val h1 h2 h3 h4]
      subst e3
      rw [hz] at h2 hv ⊢
      exact crg_xd_val n c lo p a s w hs hp ha (by simpa using hc) hkk h2 _ (by rw [hz] at h4; simpa using h4) hv
set_option linter.unusedVariables false in
theorem crt_va (n c lo hi f : Int) (p a q : Nat) (s : ByteArray) (w : World) (hs : s.size ≤ 1000000) (hp : p ≤ s.size) (ha : a ≤ 999) (hq : q ≤ s.size) (hf : (f != 1) = true) (hlo : ¬ ((a : Int) < lo ∨ hi < (a : Int))) (hc : c = 5 ∨ c = 6)
    (hk : spk n c f lo hi = 0) (h1 : clen 1 f lo hi s.data.toList p = (a, q, 0))
    (hg : ∀ W, Calls Tryd.prog 52 #[.int .i64 1, .int .i64 f, .string s, .int .i64 (p : Int)] W fun e w' => e = .returned (.tuple #[.int .i64 (a : Int), .int .i64 (q : Int), .int .i64 0]) ∧ Below W.heap.size W w') :
    Calls Tryd.prog 26 #[.int .i64 1, .agg #[.int .i64 n, .int .i64 c, .int .i64 f, .int .i64 lo, .int .i64 hi], .string s, .int .i64 (p : Int)] w fun e w' => e = .returned (cgetV (cget 1 n c f lo hi s p)) ∧ Below w.heap.size w w' := by
  have hway : cway 1 c = 2 := by unfold cway; rw [if_neg (by omega), if_pos ⟨rfl, hc⟩]
  have hz : csz (cway 1 c) a = 2 * a := by rw [hway]; rfl
  have hkk := fun W => sprefCheck_any n c f lo hi W
  rw [hk] at hkk
  obtain ⟨a', q', x', e1, g⟩ := cget_cases 1 n c f lo hi s p
  rw [h1] at e1
  cases e1
  rcases g with hx | ⟨_, h2 | ⟨h2, t, y, h3, _⟩⟩
  · exact absurd rfl hx
  · rw [cget_cut h1 h2]
    rw [hz] at h2
    exact crg_va_cut n c lo hi f p a q (2 * a) s w hs hp ha hq hf hlo (by simp; omega) (by omega) hkk hg h2
  · have hxs : (s.extract q (q + csz (cway 1 c) a)).size = csz (cway 1 c) a := by simp; omega
    have e0 : cread 2 (s.extract q (q + csz (cway 1 c) a)) a = (t, y) := (congrFun (congrFun (congrArg cread hway.symm) _) _).trans h3
    have e3 := congrArg Prod.fst e0
    have e4 := congrArg Prod.snd e0
    have h3s := h3
    clear e0
    have hr := fun W => hrefGet_any (s.extract q (q + csz (cway 1 c) a)) W (by omega)
    change hgetS (s.extract q (q + csz (cway 1 c) a)).data.toList = t at e3
    change (if hgetB (s.extract q (q + csz (cway 1 c) a)).data.toList = true then 0 else 3) = y at e4
    rw [e3] at hr
    cases hB : hgetB (s.extract q (q + csz (cway 1 c) a)).data.toList
    · rw [hB] at hr e4
      obtain rfl : y = 3 := e4.symm
      rw [cget_read h1 h2 h3 (by decide)]
      rw [hz] at h2 hr
      exact crg_va_read n c lo hi f p a q (2 * a) s w hs hp ha hq hf hlo (by simp; omega) (by omega) hkk hg h2 _ _ hr
    · rw [hB] at hr e4
      obtain rfl : y = 0 := e4.symm
      have hv := fun W => sprefValue_any n c f lo hi t W (by have := (cread_spell hxs h3s).1; unfold maxLen; omega)
      by_cases h4 : spv n c f lo hi t = 0
      · rw [cget_ok h1 h2 h3 h4]
        rw [h4] at hv
        rw [hz] at h2 hr ⊢
        exact crg_va_ok n c lo hi f p a q (2 * a) s w hs hp ha hq hf hlo (by simp; omega) (by omega) hkk hg h2 _ _ hr hv
      · rw [cget_val h1 h2 h3 h4]
        rw [hz] at h2 hr
        exact crg_va_val n c lo hi f p a q (2 * a) s w hs hp ha hq hf hlo (by simp; omega) (by omega) hkk hg h2 _ _ hr _ (by simpa using h4) hv
set_option linter.unusedVariables false in
theorem crt_vb (n c lo hi f : Int) (p a q : Nat) (s : ByteArray) (w : World) (hs : s.size ≤ 1000000) (hp : p ≤ s.size) (ha : a ≤ 999) (hq : q ≤ s.size) (hf : (f != 1) = true) (hlo : ¬ ((a : Int) < lo ∨ hi < (a : Int))) (hc : c < 5)
    (hk : spk n c f lo hi = 0) (h1 : clen 1 f lo hi s.data.toList p = (a, q, 0))
    (hg : ∀ W, Calls Tryd.prog 52 #[.int .i64 1, .int .i64 f, .string s, .int .i64 (p : Int)] W fun e w' => e = .returned (.tuple #[.int .i64 (a : Int), .int .i64 (q : Int), .int .i64 0]) ∧ Below W.heap.size W w') :
    Calls Tryd.prog 26 #[.int .i64 1, .agg #[.int .i64 n, .int .i64 c, .int .i64 f, .int .i64 lo, .int .i64 hi], .string s, .int .i64 (p : Int)] w fun e w' => e = .returned (cgetV (cget 1 n c f lo hi s p)) ∧ Below w.heap.size w w' := by
  have hway : cway 1 c = 0 := by unfold cway; rw [if_neg (by omega), if_neg (by omega)]
  have hz : csz (cway 1 c) a = a := by rw [hway]; rfl
  have hkk := fun W => sprefCheck_any n c f lo hi W
  rw [hk] at hkk
  obtain ⟨a', q', x', e1, g⟩ := cget_cases 1 n c f lo hi s p
  rw [h1] at e1
  cases e1
  rcases g with hx | ⟨_, h2 | ⟨h2, t, y, h3, _⟩⟩
  · exact absurd rfl hx
  · rw [cget_cut h1 h2]
    rw [hz] at h2
    exact crg_vb_cut n c lo hi f p a q s w hs hp ha hq hf hlo (by simp; omega) hkk hg h2
  · have hxs : (s.extract q (q + csz (cway 1 c) a)).size = csz (cway 1 c) a := by simp; omega
    have e0 : cread 0 (s.extract q (q + csz (cway 1 c) a)) a = (t, y) := (congrFun (congrFun (congrArg cread hway.symm) _) _).trans h3
    have e3 := congrArg Prod.fst e0
    have e4 := congrArg Prod.snd e0
    have h3s := h3
    clear e0
    change s.extract q (q + csz (cway 1 c) a) = t at e3
    change 0 = y at e4
    obtain rfl : y = 0 := e4.symm
    have hv := fun W => sprefValue_any n c f lo hi t W (by have := (cread_spell hxs h3s).1; unfold maxLen; omega)
    by_cases h4 : spv n c f lo hi t = 0
    · rw [cget_ok h1 h2 h3 h4]
      rw [h4] at hv
      subst e3
      rw [hz] at h2 hv ⊢
      exact crg_vb_ok n c lo hi f p a q s w hs hp ha hq hf hlo (by simp; omega) hkk hg h2 hv
    · rw [cget_val h1 h2 h3 h4]
      subst e3
      rw [hz] at h2 hv ⊢
      exact crg_vb_val n c lo hi f p a q s w hs hp ha hq hf hlo (by simp; omega) hkk hg h2 _ (by rw [hz] at h4; simpa using h4) hv
set_option linter.unusedVariables false in
theorem crt_vc (n lo hi f : Int) (p a q : Nat) (s : ByteArray) (w : World) (hs : s.size ≤ 1000000) (hp : p ≤ s.size) (ha : a ≤ 999) (hq : q ≤ s.size) (hf : (f != 1) = true) (hlo : ¬ ((a : Int) < lo ∨ hi < (a : Int)))
    (hk : spk n 1 f lo hi = 0) (h1 : clen 2 f lo hi s.data.toList p = (a, q, 0))
    (hg : ∀ W, Calls Tryd.prog 52 #[.int .i64 2, .int .i64 f, .string s, .int .i64 (p : Int)] W fun e w' => e = .returned (.tuple #[.int .i64 (a : Int), .int .i64 (q : Int), .int .i64 0]) ∧ Below W.heap.size W w') :
    Calls Tryd.prog 26 #[.int .i64 2, .agg #[.int .i64 n, .int .i64 1, .int .i64 f, .int .i64 lo, .int .i64 hi], .string s, .int .i64 (p : Int)] w fun e w' => e = .returned (cgetV (cget 2 n 1 f lo hi s p)) ∧ Below w.heap.size w w' := by
  have hway : cway 2 1 = 1 := by rfl
  have hz : csz (cway 2 1) a = (a + 1) / 2 := by rw [hway]; rfl
  have hkk := fun W => sprefCheck_any n 1 f lo hi W
  rw [hk] at hkk
  obtain ⟨a', q', x', e1, g⟩ := cget_cases 2 n 1 f lo hi s p
  rw [h1] at e1
  cases e1
  rcases g with hx | ⟨_, h2 | ⟨h2, t, y, h3, _⟩⟩
  · exact absurd rfl hx
  · rw [cget_cut h1 h2]
    rw [hz] at h2
    exact crg_vc_cut n lo hi f p a q ((a + 1) / 2) s w hs hp ha hq hf hlo (by omega) hkk hg h2
  · have hxs : (s.extract q (q + csz (cway 2 1) a)).size = csz (cway 2 1) a := by simp; omega
    have e0 : cread 1 (s.extract q (q + csz (cway 2 1) a)) a = (t, y) := (congrFun (congrFun (congrArg cread hway.symm) _) _).trans h3
    have e3 := congrArg Prod.fst e0
    have e4 := congrArg Prod.snd e0
    have h3s := h3
    clear e0
    have hr := fun W => brefGet_any (s.extract q (q + csz (cway 2 1) a)) (a : Int) W
    unfold bgetV at hr
    change (⟨(bget (s.extract q (q + csz (cway 2 1) a)).data.toList a).1.toArray⟩ : ByteArray) = t at e3
    change (bget (s.extract q (q + csz (cway 2 1) a)).data.toList a).2.1 = y at e4
    rw [e3, e4] at hr
    by_cases hy : y = 0
    · subst hy
      have hv := fun W => sprefValue_any n 1 f lo hi t W (by have := (cread_spell hxs h3s).1; unfold maxLen; omega)
      by_cases h4 : spv n 1 f lo hi t = 0
      · rw [cget_ok h1 h2 h3 h4]
        rw [h4] at hv
        rw [hz] at h2 hr ⊢
        exact crg_vc_ok n lo hi f p a q ((a + 1) / 2) s w hs hp ha hq hf hlo (by omega) hkk hg h2 _ _ hr hv
      · rw [cget_val h1 h2 h3 h4]
        rw [hz] at h2 hr
        exact crg_vc_val n lo hi f p a q ((a + 1) / 2) s w hs hp ha hq hf hlo (by omega) hkk hg h2 _ _ hr _ (by simpa using h4) hv
    · rw [cget_read h1 h2 h3 hy]
      rw [hz] at h2 hr
      exact crg_vc_read n lo hi f p a q ((a + 1) / 2) s w hs hp ha hq hf hlo (by omega) hkk hg h2 _ _ _ (by simpa using hy) hr
set_option linter.unusedVariables false in
theorem crt_vd (n c lo hi f : Int) (p a q : Nat) (s : ByteArray) (w : World) (hs : s.size ≤ 1000000) (hp : p ≤ s.size) (ha : a ≤ 999) (hq : q ≤ s.size) (hf : (f != 1) = true) (hlo : ¬ ((a : Int) < lo ∨ hi < (a : Int))) (hc : c ≠ 1)
    (hk : spk n c f lo hi = 0) (h1 : clen 2 f lo hi s.data.toList p = (a, q, 0))
    (hg : ∀ W, Calls Tryd.prog 52 #[.int .i64 2, .int .i64 f, .string s, .int .i64 (p : Int)] W fun e w' => e = .returned (.tuple #[.int .i64 (a : Int), .int .i64 (q : Int), .int .i64 0]) ∧ Below W.heap.size W w') :
    Calls Tryd.prog 26 #[.int .i64 2, .agg #[.int .i64 n, .int .i64 c, .int .i64 f, .int .i64 lo, .int .i64 hi], .string s, .int .i64 (p : Int)] w fun e w' => e = .returned (cgetV (cget 2 n c f lo hi s p)) ∧ Below w.heap.size w w' := by
  have hway : cway 2 c = 0 := by unfold cway; rw [if_neg (by omega), if_neg (by omega)]
  have hz : csz (cway 2 c) a = a := by rw [hway]; rfl
  have hkk := fun W => sprefCheck_any n c f lo hi W
  rw [hk] at hkk
  obtain ⟨a', q', x', e1, g⟩ := cget_cases 2 n c f lo hi s p
  rw [h1] at e1
  cases e1
  rcases g with hx | ⟨_, h2 | ⟨h2, t, y, h3, _⟩⟩
  · exact absurd rfl hx
  · rw [cget_cut h1 h2]
    rw [hz] at h2
    exact crg_vd_cut n c lo hi f p a q s w hs hp ha hq hf hlo (by simpa using hc) hkk hg h2
  · have hxs : (s.extract q (q + csz (cway 2 c) a)).size = csz (cway 2 c) a := by simp; omega
    have e0 : cread 0 (s.extract q (q + csz (cway 2 c) a)) a = (t, y) := (congrFun (congrFun (congrArg cread hway.symm) _) _).trans h3
    have e3 := congrArg Prod.fst e0
    have e4 := congrArg Prod.snd e0
    have h3s := h3
    clear e0
    change s.extract q (q + csz (cway 2 c) a) = t at e3
    change 0 = y at e4
    obtain rfl : y = 0 := e4.symm
    have hv := fun W => sprefValue_any n c f lo hi t W (by have := (cread_spell hxs h3s).1; unfold maxLen; omega)
    by_cases h4 : spv n c f lo hi t = 0
    · rw [cget_ok h1 h2 h3 h4]
      rw [h4] at hv
      subst e3
      rw [hz] at h2 hv ⊢
      exact crg_vd_ok n c lo hi f p a q s w hs hp ha hq hf hlo (by simpa using hc) hkk hg h2 hv
    · rw [cget_val h1 h2 h3 h4]
      subst e3
      rw [hz] at h2 hv ⊢
      exact crg_vd_val n c lo hi f p a q s w hs hp ha hq hf hlo (by simpa using hc) hkk hg h2 _ (by rw [hz] at h4; simpa using h4) hv

theorem prefGet_int {st p : Nat} {f : Int} (s : ByteArray) (W : World) (hst : st = 1 ∨ st = 2) (hf : f = 2 ∨ f = 3) (hs : s.size ≤ 1000000) (hp : p ≤ s.size) :
    Calls Tryd.prog 52 #[.int .i64 (st : Int), .int .i64 f, .string s, .int .i64 (p : Int)] W fun e w' => e = .returned (pgetV (pget st f.toNat s.data.toList p)) ∧ Below W.heap.size W w' := by
  rcases hf with rfl | rfl
  · exact prefGet_any st 2 p s W hst (.inl rfl) hs hp
  · exact prefGet_any st 3 p s W hst (.inr rfl) hs hp

/-- What the document's Get answers at a place of a text. -/
theorem crget_any (st p : Nat) (n c f lo hi : Int) (s : ByteArray) (w : World) (hst : st = 1 ∨ st = 2) (hk : spk n c f lo hi = 0) (hs : s.size ≤ 1000000) (hp : p ≤ s.size) :
    Calls Tryd.prog 26 #[.int .i64 (st : Int), .agg #[.int .i64 n, .int .i64 c, .int .i64 f, .int .i64 lo, .int .i64 hi], .string s, .int .i64 (p : Int)] w fun e w' => e = .returned (cgetV (cget st n c f lo hi s p)) ∧ Below w.heap.size w w' := by
  obtain ⟨hC, k1, k2, k3⟩ := spk_in hk
  rw [isC_iff] at hC
  by_cases hf : f = 1
  · subst hf
    obtain ⟨a, rfl⟩ := Int.eq_ofNat_of_zero_le (show 0 ≤ hi by omega)
    have h1 := clen_fixed st lo (a : Int) s.data.toList p
    rw [Int.toNat_natCast] at h1
    rcases hst with rfl | rfl
    · by_cases h5 : 5 ≤ c
      · exact crt_xa n c lo p a s w hs hp (by omega) (by omega) hk h1
      · exact crt_xb n c lo p a s w hs hp (by omega) (by omega) hk h1
    · by_cases h5 : c = 1
      · subst h5
        exact crt_xc n lo p a s w hs hp (by omega) hk h1
      · exact crt_xd n c lo p a s w hs hp (by omega) h5 hk h1
  · have hf2 : f = 2 ∨ f = 3 := by have := (spk_more hk).1; omega
    have hf1 : (f != 1) = true := by simpa using hf
    have hg := fun W => prefGet_int s W hst hf2 hs hp
    unfold pgetV at hg
    by_cases h : (pget st f.toNat s.data.toList p).2.2 = 0
    · rw [h] at hg
      by_cases h0 : ((pget st f.toNat s.data.toList p).1 : Int) < lo ∨ hi < ((pget st f.toNat s.data.toList p).1 : Int)
      · rw [cget_len (clen_range hf h h0) (by decide)]
        by_cases h2 : ((pget st f.toNat s.data.toList p).1 : Int) < lo
        · rcases hst with rfl | rfl
          · exact crg_few1 n c f lo hi p _ _ s w hf1 hk hs hp h2 hg
          · exact crg_few2 n c f lo hi p _ _ s w hf1 hk hs hp h2 hg
        · rcases hst with rfl | rfl
          · exact crg_many1 n c f lo hi p _ _ s w hf1 hk hs hp (by omega) h2 hg
          · exact crg_many2 n c f lo hi p _ _ s w hf1 hk hs hp (by omega) h2 hg
      · obtain ⟨g1, g2, _⟩ := pget_zero h
        rw [list_size] at g1
        have h1 : clen st f lo hi s.data.toList p = ((pget st f.toNat s.data.toList p).1, (pget st f.toNat s.data.toList p).2.1, 0) := by
          rw [clen_ok hf h h0]
          conv => lhs; rw [← Prod.eta (pget st f.toNat s.data.toList p), ← Prod.eta (pget st f.toNat s.data.toList p).2, h]
        generalize (pget st f.toNat s.data.toList p).1 = a at *
        generalize (pget st f.toNat s.data.toList p).2.1 = q at *
        rcases hst with rfl | rfl
        · by_cases h5 : 5 ≤ c
          · exact crt_va n c lo hi f p a q s w hs hp (by omega) (by omega) hf1 h0 (by omega) hk h1 hg
          · exact crt_vb n c lo hi f p a q s w hs hp (by omega) (by omega) hf1 h0 (by omega) hk h1 hg
        · by_cases h5 : c = 1
          · subst h5
            exact crt_vc n lo hi f p a q s w hs hp (by omega) (by omega) hf1 h0 hk h1 hg
          · exact crt_vd n c lo hi f p a q s w hs hp (by omega) (by omega) hf1 h0 h5 hk h1 hg
    · rw [cget_len (clen_err hf h) h]
      rcases hst with rfl | rfl
      · exact crg_err1 n c f lo hi p _ _ s w hf1 hk hs hp _ h hg
      · exact crg_err2 n c f lo hi p _ _ s w hf1 hk hs hp _ h hg

end Go.Proofs.YtlkpiapmdflahaaDoor
