/-
  A field as bytes, over numbers and bytes alone: which bytes a value has, which value stands at a place; put and got undo each other, and what stands ahead and behind plays no part. (No function of the program is walked here.)
-/
import Derived.Test.YtjmpjdefafkldaaDoorPackPfx
import Derived.Test.YtjmpjdefafkldaaDoorPackHex
import Derived.Test.YtjmpjdefafkldaaDoorPackSpc
import Derived.Test.YtjmpjdefafkldaaDoorPackCls
import Derived.Test.YtjmpjdefafkldaaDoorPackBase
namespace Go.Proofs.YtjmpjdefafkldaaDoor

/-- How a value stands: 1 by halves of bytes, 2 by digits of sixteen, 0 as it is. -/
def cway (st : Nat) (c : Int) : Nat := if st = 2 ∧ c = 1 then 1 else if st = 1 ∧ (c = 5 ∨ c = 6) then 2 else 0
/-- How many bytes a value of n bytes takes. -/
def csz (k n : Nat) : Nat := if k = 1 then (n + 1) / 2 else if k = 2 then 2 * n else n
def spellL (k : Nat) (l : List UInt8) : List UInt8 := if k = 1 then packL l else if k = 2 then hputL l else l
/-- The text of n bytes that is spelt by these bytes, an error. -/
def cread (k : Nat) (t : ByteArray) (n : Nat) : ByteArray × Nat :=
  if k = 1 then (⟨(bget t.data.toList n).1.toArray⟩, (bget t.data.toList n).2.1) else if k = 2 then (hgetS t.data.toList, if hgetB t.data.toList = true then 0 else 3) else (t, 0)
/-- A field's bytes. -/
def cputL (st : Nat) (c f : Int) (l : List UInt8) : List UInt8 := (if f = 1 then [] else pputL st f.toNat l.length) ++ spellL (cway st c) l
/-- How many bytes the value has, where it begins, an error. -/
def clen (st : Nat) (f lo hi : Int) (l : List UInt8) (p : Nat) : Nat × Nat × Nat :=
  if f = 1 then (hi.toNat, p, 0) else if (pget st f.toNat l p).2.2 ≠ 0 then (0, 0, (pget st f.toNat l p).2.2) else
  if ((pget st f.toNat l p).1 : Int) < lo ∨ hi < ((pget st f.toNat l p).1 : Int) then (0, 0, 5) else pget st f.toNat l p
/-- The value at a place, the place behind it, an error. -/
def cget (st : Nat) (n c f lo hi : Int) (s : ByteArray) (p : Nat) : ByteArray × Nat × Int :=
  if (clen st f lo hi s.data.toList p).2.2 ≠ 0 then (⟨#[]⟩, 0, ((clen st f lo hi s.data.toList p).2.2 : Int)) else
  if s.size < (clen st f lo hi s.data.toList p).2.1 + csz (cway st c) (clen st f lo hi s.data.toList p).1 then (⟨#[]⟩, 0, 2) else
  if (cread (cway st c) (s.extract (clen st f lo hi s.data.toList p).2.1 ((clen st f lo hi s.data.toList p).2.1 + csz (cway st c) (clen st f lo hi s.data.toList p).1)) (clen st f lo hi s.data.toList p).1).2 ≠ 0 then
    (⟨#[]⟩, 0, ((cread (cway st c) (s.extract (clen st f lo hi s.data.toList p).2.1 ((clen st f lo hi s.data.toList p).2.1 + csz (cway st c) (clen st f lo hi s.data.toList p).1)) (clen st f lo hi s.data.toList p).1).2 : Int)) else
  if spv n c f lo hi (cread (cway st c) (s.extract (clen st f lo hi s.data.toList p).2.1 ((clen st f lo hi s.data.toList p).2.1 + csz (cway st c) (clen st f lo hi s.data.toList p).1)) (clen st f lo hi s.data.toList p).1).1 ≠ 0 then
    (⟨#[]⟩, 0, spv n c f lo hi (cread (cway st c) (s.extract (clen st f lo hi s.data.toList p).2.1 ((clen st f lo hi s.data.toList p).2.1 + csz (cway st c) (clen st f lo hi s.data.toList p).1)) (clen st f lo hi s.data.toList p).1).1) else
  ((cread (cway st c) (s.extract (clen st f lo hi s.data.toList p).2.1 ((clen st f lo hi s.data.toList p).2.1 + csz (cway st c) (clen st f lo hi s.data.toList p).1)) (clen st f lo hi s.data.toList p).1).1, (clen st f lo hi s.data.toList p).2.1 + csz (cway st c) (clen st f lo hi s.data.toList p).1, 0)

theorem cway_le (st : Nat) (c : Int) : cway st c = 0 ∨ cway st c = 1 ∨ cway st c = 2 := by unfold cway; split <;> (try split) <;> simp
theorem cway_one {st : Nat} {c : Int} (h : cway st c = 1) : st = 2 ∧ c = 1 := by
  unfold cway at h
  split at h
  · assumption
  · split at h <;> cases h
theorem cway_two {st : Nat} {c : Int} (h : cway st c = 2) : st = 1 ∧ (c = 5 ∨ c = 6) := by
  unfold cway at h
  split at h
  · cases h
  · split at h
    · assumption
    · cases h
theorem cway_none {st : Nat} {c : Int} (h : cway st c = 0) : ¬ (st = 2 ∧ c = 1) ∧ ¬ (st = 1 ∧ (c = 5 ∨ c = 6)) := by
  unfold cway at h
  split at h
  · cases h
  · split at h
    · cases h
    · exact ⟨by assumption, by assumption⟩
theorem csz_none (n : Nat) : csz 0 n = n := rfl
theorem csz_one (n : Nat) : csz 1 n = (n + 1) / 2 := rfl
theorem csz_two (n : Nat) : csz 2 n = 2 * n := rfl
theorem csz_le (k n : Nat) : csz k n ≤ 2 * n := by unfold csz; split <;> (try split) <;> omega
theorem spellL_length (k : Nat) (l : List UInt8) : (spellL k l).length = csz k l.length := by
  unfold spellL csz
  split
  · exact packL_length l
  · split
    · exact hputL_length l
    · rfl

theorem clen_fixed (st : Nat) (lo hi : Int) (l : List UInt8) (p : Nat) : clen st 1 lo hi l p = (hi.toNat, p, 0) := by unfold clen; rw [if_pos rfl]
theorem clen_err {st : Nat} {f lo hi : Int} {l : List UInt8} {p : Nat} (hf : f ≠ 1) (h : (pget st f.toNat l p).2.2 ≠ 0) : clen st f lo hi l p = (0, 0, (pget st f.toNat l p).2.2) := by unfold clen; rw [if_neg hf, if_pos h]
theorem clen_range {st : Nat} {f lo hi : Int} {l : List UInt8} {p : Nat} (hf : f ≠ 1) (h : (pget st f.toNat l p).2.2 = 0) (h1 : ((pget st f.toNat l p).1 : Int) < lo ∨ hi < ((pget st f.toNat l p).1 : Int)) : clen st f lo hi l p = (0, 0, 5) := by
  unfold clen; rw [if_neg hf, if_neg (by simp [h]), if_pos h1]
theorem clen_ok {st : Nat} {f lo hi : Int} {l : List UInt8} {p : Nat} (hf : f ≠ 1) (h : (pget st f.toNat l p).2.2 = 0) (h1 : ¬ (((pget st f.toNat l p).1 : Int) < lo ∨ hi < ((pget st f.toNat l p).1 : Int))) : clen st f lo hi l p = pget st f.toNat l p := by
  unfold clen; rw [if_neg hf, if_neg (by simp [h]), if_neg h1]

section
variable {st : Nat} {n c f lo hi : Int} {s : ByteArray} {p a q x y : Nat} {t : ByteArray}
theorem cget_len (h : clen st f lo hi s.data.toList p = (a, q, x)) (hx : x ≠ 0) : cget st n c f lo hi s p = (⟨#[]⟩, 0, (x : Int)) := by
  unfold cget; rw [h, if_pos hx]
theorem cget_cut (h : clen st f lo hi s.data.toList p = (a, q, 0)) (h2 : s.size < q + csz (cway st c) a) : cget st n c f lo hi s p = (⟨#[]⟩, 0, 2) := by
  unfold cget; rw [h, if_neg (by simp), if_pos h2]
theorem cget_read (h : clen st f lo hi s.data.toList p = (a, q, 0)) (h2 : q + csz (cway st c) a ≤ s.size) (h3 : cread (cway st c) (s.extract q (q + csz (cway st c) a)) a = (t, y)) (hy : y ≠ 0) : cget st n c f lo hi s p = (⟨#[]⟩, 0, (y : Int)) := by
  unfold cget; rw [h, if_neg (by simp), if_neg (by simp; omega)]; dsimp only; rw [h3, if_pos hy]
theorem cget_val (h : clen st f lo hi s.data.toList p = (a, q, 0)) (h2 : q + csz (cway st c) a ≤ s.size) (h3 : cread (cway st c) (s.extract q (q + csz (cway st c) a)) a = (t, 0)) (h4 : spv n c f lo hi t ≠ 0) : cget st n c f lo hi s p = (⟨#[]⟩, 0, spv n c f lo hi t) := by
  unfold cget; rw [h, if_neg (by simp), if_neg (by simp; omega)]; dsimp only; rw [h3, if_neg (by simp), if_pos h4]
theorem cget_ok (h : clen st f lo hi s.data.toList p = (a, q, 0)) (h2 : q + csz (cway st c) a ≤ s.size) (h3 : cread (cway st c) (s.extract q (q + csz (cway st c) a)) a = (t, 0)) (h4 : spv n c f lo hi t = 0) : cget st n c f lo hi s p = (t, q + csz (cway st c) a, 0) := by
  unfold cget; rw [h, if_neg (by simp), if_neg (by simp; omega)]; dsimp only; rw [h3, if_neg (by simp), if_neg (by simp [h4])]

/-- All ways out. -/
theorem cget_cases (st : Nat) (n c f lo hi : Int) (s : ByteArray) (p : Nat) : ∃ a q x, clen st f lo hi s.data.toList p = (a, q, x) ∧
    (x ≠ 0 ∨ x = 0 ∧ (s.size < q + csz (cway st c) a ∨ q + csz (cway st c) a ≤ s.size ∧ ∃ t y, cread (cway st c) (s.extract q (q + csz (cway st c) a)) a = (t, y) ∧
      (y ≠ 0 ∨ y = 0 ∧ (spv n c f lo hi t ≠ 0 ∨ spv n c f lo hi t = 0)))) := by
  rcases hr : clen st f lo hi s.data.toList p with ⟨a, q, x⟩
  refine ⟨a, q, x, rfl, ?_⟩
  by_cases hx : x = 0
  · refine .inr ⟨hx, ?_⟩
    by_cases h2 : s.size < q + csz (cway st c) a
    · exact .inl h2
    · refine .inr ⟨by omega, ?_⟩
      rcases ht : cread (cway st c) (s.extract q (q + csz (cway st c) a)) a with ⟨t, y⟩
      refine ⟨t, y, rfl, ?_⟩
      by_cases hy : y = 0
      · exact .inr ⟨hy, (Decidable.em _).symm⟩
      · exact .inl hy
  · exact .inl hx
theorem cget_zero (h : (cget st n c f lo hi s p).2.2 = 0) : ∃ a q t, clen st f lo hi s.data.toList p = (a, q, 0) ∧ q + csz (cway st c) a ≤ s.size ∧ cread (cway st c) (s.extract q (q + csz (cway st c) a)) a = (t, 0) ∧ spv n c f lo hi t = 0 ∧ cget st n c f lo hi s p = (t, q + csz (cway st c) a, 0) := by
  obtain ⟨a, q, x, h1, hx | ⟨rfl, h2 | ⟨h2, t, y, h3, hy | ⟨rfl, h4 | h4⟩⟩⟩⟩ := cget_cases st n c f lo hi s p
  · rw [cget_len h1 hx] at h
    exact absurd h (by simpa using hx)
  · rw [cget_cut h1 h2] at h
    cases h
  · rw [cget_read h1 h2 h3 hy] at h
    exact absurd h (by simpa using hy)
  · rw [cget_val h1 h2 h3 h4] at h
    exact absurd h h4
  · exact ⟨a, q, t, h1, h2, h3, h4, cget_ok h1 h2 h3 h4⟩
theorem cget_err (h : (cget st n c f lo hi s p).2.2 ≠ 0) : (cget st n c f lo hi s p).1 = ⟨#[]⟩ ∧ (cget st n c f lo hi s p).2.1 = 0 := by
  obtain ⟨a, q, x, h1, hx | ⟨rfl, h2 | ⟨h2, t, y, h3, hy | ⟨rfl, h4 | h4⟩⟩⟩⟩ := cget_cases st n c f lo hi s p
  · rw [cget_len h1 hx]; exact ⟨rfl, rfl⟩
  · rw [cget_cut h1 h2]; exact ⟨rfl, rfl⟩
  · rw [cget_read h1 h2 h3 hy]; exact ⟨rfl, rfl⟩
  · rw [cget_val h1 h2 h3 h4]; exact ⟨rfl, rfl⟩
  · rw [cget_ok h1 h2 h3 h4] at h
    exact absurd rfl h
end

/-! What stands ahead and behind. -/
theorem pget_shift (st f : Nat) (a l : List UInt8) (p : Nat) : pget st f (a ++ l) (a.length + p) = if (pget st f l p).2.2 = 0 then ((pget st f l p).1, a.length + (pget st f l p).2.1, 0) else pget st f l p := by
  have hd : (a ++ l).drop (a.length + p) = l.drop p := by rw [List.drop_append, List.drop_eq_nil_of_le (by omega), Nat.add_sub_cancel_left, List.nil_append]
  by_cases h : l.length < p + psz st f
  · rw [pget_cut h, pget_cut (by rw [List.length_append]; omega)]; rfl
  · cases hn : pnum st f ((l.drop p).take (psz st f)) with
    | none => rw [pget_form (by omega) hn, pget_form (by rw [List.length_append]; omega) (by rw [hd]; exact hn)]; rfl
    | some m => rw [pget_ok (by omega) hn, pget_ok (by rw [List.length_append]; omega) (by rw [hd]; exact hn), if_pos rfl, Nat.add_assoc]
theorem pget_more {st f : Nat} {l : List UInt8} {p : Nat} (m : List UInt8) (h : (pget st f l p).2.2 = 0) : pget st f (l ++ m) p = pget st f l p := by
  obtain ⟨h1, _, h3⟩ := pget_zero h
  rw [pget_ok h1 h3, pget_ok (by rw [List.length_append]; omega) (by
    rw [List.drop_append_of_le_length (by omega), List.take_append_of_le_length (by rw [List.length_drop]; omega)]; exact h3)]
theorem clen_shift (st : Nat) (f lo hi : Int) (a l : List UInt8) (p : Nat) : clen st f lo hi (a ++ l) (a.length + p) = if (clen st f lo hi l p).2.2 = 0 then ((clen st f lo hi l p).1, a.length + (clen st f lo hi l p).2.1, 0) else clen st f lo hi l p := by
  by_cases hf : f = 1
  · subst hf; rw [clen_fixed, clen_fixed, if_pos rfl]
  · have hs := pget_shift st f.toNat a l p
    by_cases h : (pget st f.toNat l p).2.2 = 0
    · rw [if_pos h] at hs
      by_cases h1 : ((pget st f.toNat l p).1 : Int) < lo ∨ hi < ((pget st f.toNat l p).1 : Int)
      · rw [clen_range hf h h1, clen_range hf (by rw [hs]) (by rw [hs]; exact h1)]; rfl
      · rw [clen_ok hf h h1, clen_ok hf (by rw [hs]) (by rw [hs]; exact h1), if_pos h, hs]
    · rw [if_neg h] at hs
      rw [clen_err hf h, clen_err hf (by rw [hs]; exact h), hs]
      dsimp only
      rw [if_neg h]
theorem clen_more {st : Nat} {f lo hi : Int} {l : List UInt8} {p : Nat} (m : List UInt8) (h : (clen st f lo hi l p).2.2 = 0) : clen st f lo hi (l ++ m) p = clen st f lo hi l p := by
  by_cases hf : f = 1
  · subst hf; rw [clen_fixed, clen_fixed]
  · by_cases h0 : (pget st f.toNat l p).2.2 = 0
    · have hs := pget_more m h0
      by_cases h1 : ((pget st f.toNat l p).1 : Int) < lo ∨ hi < ((pget st f.toNat l p).1 : Int)
      · rw [clen_range hf h0 h1, clen_range hf (by rw [hs]; exact h0) (by rw [hs]; exact h1)]
      · rw [clen_ok hf h0 h1, clen_ok hf (by rw [hs]; exact h0) (by rw [hs]; exact h1), hs]
    · rw [clen_err hf h0] at h
      exact absurd h h0
theorem ext_eq {x y : ByteArray} (h : x.data.toList = y.data.toList) : x = y := by rw [ByteArray.ext_iff]; exact Array.toList_inj.1 h
theorem app_list (x y : ByteArray) : (x ++ y).data.toList = x.data.toList ++ y.data.toList := by simp
theorem list_size (x : ByteArray) : x.data.toList.length = x.size := by simp
theorem extract_shift (A s : ByteArray) (q z : Nat) : (A ++ s).extract (A.size + q) (A.size + q + z) = s.extract q (q + z) := by
  apply ext_eq
  rw [piece_list, piece_list, app_list, List.drop_append, List.drop_eq_nil_of_le (by rw [list_size]; omega), list_size, Nat.add_sub_cancel_left, List.nil_append]
theorem extract_more (s M : ByteArray) (q z : Nat) (h : q + z ≤ s.size) : (s ++ M).extract q (q + z) = s.extract q (q + z) := by
  apply ext_eq
  rw [piece_list, piece_list, app_list, List.drop_append_of_le_length (by rw [list_size]; omega), List.take_append_of_le_length (by rw [List.length_drop, list_size]; omega)]
theorem cget_shift (st : Nat) (n c f lo hi : Int) (A s : ByteArray) (p : Nat) : cget st n c f lo hi (A ++ s) (A.size + p) = if (cget st n c f lo hi s p).2.2 = 0 then ((cget st n c f lo hi s p).1, A.size + (cget st n c f lo hi s p).2.1, 0) else cget st n c f lo hi s p := by
  have hs := clen_shift st f lo hi A.data.toList s.data.toList p
  rw [list_size, ← app_list] at hs
  obtain ⟨a, q, x, h1, hx | ⟨rfl, h2 | ⟨h2, t, y, h3, hy | ⟨rfl, h4 | h4⟩⟩⟩⟩ := cget_cases st n c f lo hi s p
  · rw [h1] at hs
    dsimp only at hs
    rw [if_neg hx] at hs
    rw [cget_len h1 hx, cget_len hs hx, if_neg (by simpa using hx)]
  · rw [h1] at hs
    dsimp only at hs
    rw [if_pos rfl] at hs
    rw [cget_cut h1 h2, cget_cut hs (by rw [ByteArray.size_append]; omega)]; rfl
  all_goals
    rw [h1] at hs
    dsimp only at hs
    rw [if_pos rfl] at hs
    have h2' : A.size + q + csz (cway st c) a ≤ (A ++ s).size := by rw [ByteArray.size_append]; omega
    rw [← extract_shift A s q] at h3
  · rw [cget_read h1 h2 (by rw [← extract_shift A s q]; exact h3) hy, cget_read hs h2' h3 hy, if_neg (by simpa using hy)]
  · rw [cget_val h1 h2 (by rw [← extract_shift A s q]; exact h3) h4, cget_val hs h2' h3 h4, if_neg h4]
  · rw [cget_ok h1 h2 (by rw [← extract_shift A s q]; exact h3) h4, cget_ok hs h2' h3 h4, if_pos rfl, Nat.add_assoc]
theorem cget_more {st : Nat} {n c f lo hi : Int} {s : ByteArray} {p : Nat} (M : ByteArray) (h : (cget st n c f lo hi s p).2.2 = 0) : cget st n c f lo hi (s ++ M) p = cget st n c f lo hi s p := by
  obtain ⟨a, q, t, h1, h2, h3, h4, h5⟩ := cget_zero h
  have hs := clen_more (st := st) (f := f) (lo := lo) (hi := hi) (p := p) (l := s.data.toList) M.data.toList (by rw [h1])
  rw [← app_list, h1] at hs
  rw [h5, cget_ok hs (by rw [ByteArray.size_append]; omega) (by rw [extract_more _ _ _ _ h2]; exact h3) h4]

/-! Put and got. -/
theorem fst_digits {l : List UInt8} (h : ¬ 0 ≤ fst 1 l) : allD l = true := by
  rcases fst_cases 1 l with ⟨_, g⟩ | ⟨k, _, g, _⟩
  · unfold allD
    rw [List.all_eq_true] at g ⊢
    intro c hc
    have := g c hc
    rw [isO_1] at this
    rw [isD_iff]
    simpa using this
  · omega
theorem spk_more {n c f lo hi : Int} (h : spk n c f lo hi = 0) : (f = 1 ∨ f = 2 ∨ f = 3) ∧ lenB f lo hi = true := by
  unfold spk at h
  split at h
  · omega
  split at h
  · omega
  split at h
  · omega
  rename_i h1
  split at h
  · omega
  rename_i h2
  exact ⟨by omega, by simpa using h2⟩
theorem spk_fixed {n c lo hi : Int} (h : spk n c 1 lo hi = 0) : lo = hi := by
  have h1 := (spk_more h).2
  rw [lenB_one (lenB_in h1)] at h1
  simpa using h1
theorem spk_most {n c f lo hi : Int} (h : spk n c f lo hi = 0) (hf : f ≠ 1) (m : Nat) (hm : (m : Int) ≤ hi) : (f.toNat = 2 ∨ f.toNat = 3) ∧ m < 10 ^ f.toNat := by
  obtain ⟨g1, g2⟩ := spk_more h
  have g3 := lenB_in g2
  rcases g1 with rfl | rfl | rfl
  · exact absurd rfl hf
  · rw [lenB_two g3] at g2
    have g4 : hi ≤ 99 := by simpa using g2
    refine ⟨.inl rfl, ?_⟩
    show m < 100
    omega
  · refine ⟨.inr rfl, ?_⟩
    show m < 1000
    omega

theorem cread_back {k : Nat} {l : List UInt8} (h : k = 1 → allD l = true ∧ l.length ≤ 999) : cread k ⟨(spellL k l).toArray⟩ l.length = (⟨l.toArray⟩, 0) := by
  unfold cread spellL
  split
  · rename_i hk
    obtain ⟨h1, h2⟩ := h hk
    have e := bget_packL h1 h2 []
    rw [List.append_nil] at e
    rw [mk_list, e]
  · split
    · rw [mk_list, hgetS_yes (hgetB_hputL l), hgetL_hputL, hgetB_hputL, if_pos rfl]
    · rfl
theorem cread_spell {k n : Nat} {t x : ByteArray} (hx : x.size = csz k n) (h : cread k x n = (t, 0)) : t.size = n ∧ spellL k t.data.toList = x.data.toList := by
  unfold cread at h
  unfold csz at hx
  unfold spellL
  have hl := list_size x
  split at h
  · rename_i hk
    rw [if_pos hk] at hx ⊢
    obtain ⟨h1, h2⟩ := Prod.mk.inj h
    obtain ⟨m, hm, hm1, g0, g1, g2⟩ := bget_zero h2
    obtain rfl : n = m := by omega
    rw [bget_ok hm1 g0 g1 g2] at h1
    subst h1
    rw [mk_size, mk_list, bgetL_length]
    exact ⟨rfl, by rw [packL_bgetL g0 g1, List.take_of_length_le (by omega)]⟩
  · rename_i hk
    rw [if_neg hk] at hx ⊢
    split at h
    · rename_i hk
      rw [if_pos hk] at hx ⊢
      obtain ⟨h1, h2⟩ := Prod.mk.inj h
      have hB : hgetB x.data.toList = true := by
        cases e : hgetB x.data.toList
        · rw [e] at h2; cases h2
        · rfl
      obtain ⟨g1, g2⟩ := hgetB_iff hB
      rw [hgetS_yes hB] at h1
      subst h1
      rw [mk_size, mk_list, hgetL_length]
      exact ⟨by rw [hl, hx]; omega, hputL_hgetL _ g1 g2⟩
    · rename_i hk
      rw [if_neg hk] at hx ⊢
      obtain ⟨h1, _⟩ := Prod.mk.inj h
      subst h1
      exact ⟨hx, rfl⟩

/-- A value that is put is got. -/
theorem cget_back {st : Nat} {n c f lo hi : Int} {s : ByteArray} (h : spv n c f lo hi s = 0) : cget st n c f lo hi ⟨(cputL st c f s.data.toList).toArray⟩ 0 = (s, (cputL st c f s.data.toList).length, 0) := by
  obtain ⟨g1, g2, g3, g4⟩ := spv_in h
  obtain ⟨_, k1, k2, k3⟩ := spk_in g1
  have hl := list_size s
  have hlen : ∃ q, clen st f lo hi (cputL st c f s.data.toList) 0 = (s.size, q, 0) ∧ (cputL st c f s.data.toList).length = q + csz (cway st c) s.size ∧ (cputL st c f s.data.toList).drop q = spellL (cway st c) s.data.toList := by
    by_cases hf : f = 1
    · subst hf
      have e := spk_fixed g1
      refine ⟨0, ?_, ?_, ?_⟩
      · rw [clen_fixed, show hi.toNat = s.size by omega]
      · unfold cputL
        rw [if_pos rfl, List.nil_append, spellL_length, hl, Nat.zero_add]
      · unfold cputL
        rw [if_pos rfl, List.nil_append, List.drop_zero]
    · obtain ⟨f1, f2⟩ := spk_most g1 hf s.size (by omega)
      have e := pget_back (st := st) [] (spellL (cway st c) s.data.toList) f1 f2
      rw [List.nil_append, List.length_nil, Nat.zero_add] at e
      have e0 : cputL st c f s.data.toList = pputL st f.toNat s.size ++ spellL (cway st c) s.data.toList := by
        unfold cputL
        rw [if_neg hf, hl]
      have e1 := pputL_length (st := st) s.size f1
      rw [e0]
      refine ⟨psz st f.toNat, ?_, ?_, ?_⟩
      · rw [clen_ok hf (by rw [e]) (by rw [e]; exact g2), e]
      · rw [List.length_append, e1, spellL_length, hl]
      · rw [← e1, List.drop_left]
  obtain ⟨q, h1, h2, h3⟩ := hlen
  have hp : (⟨(cputL st c f s.data.toList).toArray⟩ : ByteArray).extract q (q + csz (cway st c) s.size) = ⟨(spellL (cway st c) s.data.toList).toArray⟩ := by
    apply ext_eq
    rw [piece_list, mk_list, mk_list, h3, List.take_of_length_le (by rw [spellL_length, hl]; omega)]
  have hr : cread (cway st c) ⟨(spellL (cway st c) s.data.toList).toArray⟩ s.size = (s, 0) := by
    have e := cread_back (k := cway st c) (l := s.data.toList) (fun hk => by
      obtain ⟨_, rfl⟩ := cway_one hk
      exact ⟨fst_digits g3, by omega⟩)
    rw [hl] at e
    rw [e]
  rw [cget_ok (by rw [mk_list]; exact h1) (by have e := mk_size (cputL st c f s.data.toList); rw [e, h2]; exact Nat.le_refl _) (by rw [hp]; exact hr) h, h2]
/-- Bytes that are got are put as they were. -/
theorem cget_one {st : Nat} {n c f lo hi : Int} {s t : ByteArray} {q : Nat} (hk : spk n c f lo hi = 0) (h : cget st n c f lo hi s 0 = (t, q, 0)) : spv n c f lo hi t = 0 ∧ q ≤ s.size ∧ cputL st c f t.data.toList = s.data.toList.take q := by
  obtain ⟨a, b, t', h1, h2, h3, h4, h5⟩ := cget_zero (by rw [h])
  rw [h] at h5
  obtain ⟨i1, i2⟩ := Prod.mk.inj h5
  obtain ⟨i3, _⟩ := Prod.mk.inj i2
  subst i1
  subst i3
  clear h5 i2
  refine ⟨h4, h2, ?_⟩
  have hxs : (s.extract b (b + csz (cway st c) a)).size = csz (cway st c) a := by simp; omega
  obtain ⟨e1, e2⟩ := cread_spell hxs h3
  have hl := list_size s
  have hlt := list_size t
  rw [piece_list] at e2
  unfold cputL
  rw [e2, hlt, e1]
  by_cases hf : f = 1
  · subst hf
    rw [clen_fixed] at h1
    obtain ⟨_, h6⟩ := Prod.mk.inj h1
    obtain ⟨rfl, _⟩ := Prod.mk.inj h6
    rw [if_pos rfl, List.nil_append, List.drop_zero, Nat.zero_add]
  · rw [if_neg hf]
    have hp : (pget st f.toNat s.data.toList 0).2.2 = 0 := by
      apply Classical.byContradiction
      intro hn
      rw [clen_err hf hn] at h1
      have h6 := (Prod.mk.inj (Prod.mk.inj h1).2).2
      exact hn h6
    have hr : ¬ (((pget st f.toNat s.data.toList 0).1 : Int) < lo ∨ hi < ((pget st f.toNat s.data.toList 0).1 : Int)) := by
      intro hn
      rw [clen_range hf hp hn] at h1
      cases h1
    rw [clen_ok hf hp hr] at h1
    obtain ⟨f1, _⟩ := spk_most hk hf (pget st f.toNat s.data.toList 0).1 (by omega)
    obtain ⟨_, g2, g3, g4⟩ := pget_one f1 hp
    rw [h1] at g2 g4
    dsimp only at g2 g4
    rw [g4, ← g2, ← List.take_add]
theorem cputL_length_le {st : Nat} {c f : Int} {l : List UInt8} (hf : f = 1 ∨ f = 2 ∨ f = 3) : (cputL st c f l).length ≤ 3 + 2 * l.length := by
  unfold cputL
  rw [List.length_append, spellL_length]
  have := csz_le (cway st c) l.length
  rcases hf with rfl | rfl | rfl
  · rw [if_pos rfl, List.length_nil]; omega
  · have e := pputL_length (st := st) (f := 2) l.length (.inl rfl)
    have := (psz_le (st := st) (f := 2) (.inl rfl)).2
    rw [if_neg (by decide), show (2 : Int).toNat = 2 from rfl]
    omega
  · have e := pputL_length (st := st) (f := 3) l.length (.inr rfl)
    have := (psz_le (st := st) (f := 3) (.inr rfl)).2
    rw [if_neg (by decide), show (3 : Int).toNat = 3 from rfl]
    omega

end Go.Proofs.YtjmpjdefafkldaaDoor
