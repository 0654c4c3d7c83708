/-
  Texts of one family, laid together: BcdMath, BcdSmall, BcdPut, BcdGet, BcdRefPut, BcdRefGet.
-/
import Derived.Test.YtlkpiapmdflahaaDoorPackDig
import Derived.Test.YtlkpiapmdflahaaDoorPackBase
import Derived.IntWalk
import Derived.Laws.BitsLemmas
import Derived.Laws.OwnMore
import Derived.Deep.AppendLies

/-
  Plain facts on digits by halves of bytes (lists of bytes and numbers); nothing of the program.
-/
namespace Go.Proofs.YtlkpiapmdflahaaDoor

def dv (c : UInt8) : Nat := c.toNat - 48
theorem dv_lt {c : UInt8} (h : isD c = true) : dv c < 10 := by
  rw [isD_iff] at h; unfold dv; omega
theorem dv_of {c : UInt8} (h : isD c = true) : UInt8.ofNat (48 + dv c) = c := by
  rw [isD_iff] at h
  apply UInt8.toNat_inj.1
  rw [UInt8.toNat_ofNat']
  unfold dv
  omega

theorem getD_in (l : List UInt8) (i : Nat) (d : UInt8) (h : i < l.length) : l.getD i d = l[i] := by
  rw [List.getD_eq_getElem?_getD, List.getElem?_eq_getElem h]; rfl
theorem getD_out (l : List UInt8) (i : Nat) (d : UInt8) (h : l.length ≤ i) : l.getD i d = d := by
  rw [List.getD_eq_getElem?_getD, List.getElem?_eq_none h]; rfl

/-- The half at place i of digits, a nought ahead of an odd count. -/
def hvL (l : List UInt8) (i : Nat) : Nat := if i < l.length % 2 then 0 else dv (l.getD (i - l.length % 2) 48)
def pbyte (l : List UInt8) (t : Nat) : UInt8 := UInt8.ofNat (16 * hvL l (2 * t) + hvL l (2 * t + 1))
def packL (l : List UInt8) : List UInt8 := (List.range ((l.length + 1) / 2)).map (pbyte l)
theorem packL_length (l : List UInt8) : (packL l).length = (l.length + 1) / 2 := by simp [packL]
theorem packL_at (l : List UInt8) (t : Nat) (h : t < (packL l).length) : (packL l)[t] = pbyte l t := by simp [packL]

theorem allD_getD {l : List UInt8} (h : allD l = true) (i : Nat) : isD (l.getD i 48) = true := by
  unfold allD at h
  rw [List.all_eq_true] at h
  by_cases hi : i < l.length
  · rw [getD_in _ _ _ hi]; exact h _ (List.getElem_mem hi)
  · rw [getD_out _ _ _ (by omega)]; decide
theorem hvL_lt {l : List UInt8} (h : allD l = true) (i : Nat) : hvL l i < 10 := by
  unfold hvL
  split
  · omega
  · exact dv_lt (allD_getD h _)
theorem hvL_at (l : List UInt8) (k : Nat) (hk : k < l.length) : hvL l (k + l.length % 2) = dv l[k] := by
  unfold hvL
  rw [if_neg (by omega), Nat.add_sub_cancel, getD_in _ _ _ hk]
theorem hvL_pad (l : List UInt8) (i : Nat) (h : i < l.length % 2) : hvL l i = 0 := by unfold hvL; rw [if_pos h]

/-- The program's row: cell t, when j halves are laid. -/
def pcN (l : List UInt8) (j t : Nat) : Nat := if 2 * t + 1 < j then 16 * hvL l (2 * t) + hvL l (2 * t + 1) else if 2 * t < j then hvL l (2 * t) else 0
def pcL (l : List UInt8) (m j : Nat) : List UInt8 := (List.range m).map fun t => UInt8.ofNat (pcN l j t)
/-- The document's row. -/
def rcN (l : List UInt8) (j t : Nat) : Nat := if 2 * t + 1 < j then 16 * hvL l (2 * t) + hvL l (2 * t + 1) else 16 * hvL l (2 * t)
def rcL (l : List UInt8) (j : Nat) : List UInt8 := (List.range ((j + 1) / 2)).map fun t => UInt8.ofNat (rcN l j t)

theorem set_range {α : Type} (m i : Nat) (f g : Nat → α) (h : ∀ t, t < m → t ≠ i → g t = f t) : ((List.range m).map f).set i (g i) = (List.range m).map g := by
  apply List.ext_getElem
  · simp
  · intro t h1 h2
    simp only [List.length_set, List.length_map, List.length_range] at h1
    rw [List.getElem_set]
    split
    · rename_i e; subst e; simp
    · rename_i e; simp; exact (h t h1 (fun e' => e e'.symm)).symm

theorem pcL_start (l : List UInt8) (m : Nat) : pcL l m (l.length % 2) = List.replicate m 0 := by
  unfold pcL
  apply List.ext_getElem
  · simp
  · intro t h1 h2
    simp
    unfold pcN
    rw [if_neg (by omega)]
    split
    · rename_i h; rw [hvL_pad _ _ h]; rfl
    · rfl
theorem pcL_set (l : List UInt8) (m j : Nat) (n : Nat) (hn : pcN l (j + 1) (j / 2) = n) : (pcL l m j).set (j / 2) (UInt8.ofNat n) = pcL l m (j + 1) := by
  subst hn
  refine set_range m (j / 2) _ (fun t => UInt8.ofNat (pcN l (j + 1) t)) fun t _ ht => ?_
  congr 1
  unfold pcN
  by_cases h1 : 2 * t + 1 < j
  · rw [if_pos h1, if_pos (by omega)]
  · rw [if_neg h1, if_neg (by omega), if_neg (by omega), if_neg (by omega)]
theorem pcN_old (l : List UInt8) (j : Nat) : pcN l j (j / 2) = if j % 2 = 0 then 0 else hvL l (j - 1) := by
  unfold pcN
  rw [if_neg (by omega)]
  by_cases h : j % 2 = 0
  · rw [if_pos h, if_neg (by omega)]
  · rw [if_neg h, if_pos (by omega)]; congr 1; omega
theorem pcN_new (l : List UInt8) (j : Nat) : pcN l (j + 1) (j / 2) = 16 * pcN l j (j / 2) + hvL l j := by
  rw [pcN_old]
  unfold pcN
  by_cases h : j % 2 = 0
  · rw [if_pos h, if_neg (by omega), if_pos (by omega)]; simp; congr 1; omega
  · rw [if_neg h, if_pos (by omega)]; congr 3 <;> omega
theorem pcL_end (l : List UInt8) : pcL l ((l.length + 1) / 2) (l.length + l.length % 2) = packL l := by
  unfold pcL packL
  apply List.map_congr_left
  intro t ht
  rw [List.mem_range] at ht
  unfold pcN pbyte
  rw [if_pos (by omega)]

theorem rcL_length (l : List UInt8) (j : Nat) : (rcL l j).length = (j + 1) / 2 := by simp [rcL]
theorem rcL_zero (l : List UInt8) : rcL l 0 = [] := by simp [rcL]
theorem rcL_one (l : List UInt8) (h : l.length % 2 = 1) : rcL l 1 = [0] := by
  simp [rcL, rcN, hvL_pad l 0 (by omega)]
theorem rcL_even (l : List UInt8) (j : Nat) (h : j % 2 = 0) : rcL l (j + 1) = rcL l j ++ [UInt8.ofNat (16 * hvL l j)] := by
  unfold rcL
  rw [show (j + 1 + 1) / 2 = (j + 1) / 2 + 1 by omega, List.range_succ, List.map_append]
  congr 1
  · apply List.map_congr_left
    intro t ht
    rw [List.mem_range] at ht
    unfold rcN
    rw [if_pos (by omega), if_pos (by omega)]
  · simp only [List.map_cons, List.map_nil]
    unfold rcN
    rw [if_neg (by omega), show 2 * ((j + 1) / 2) = j by omega]
theorem rcL_odd (l : List UInt8) (j : Nat) (h : j % 2 = 1) : (rcL l j).set (j / 2) (UInt8.ofNat (rcN l j (j / 2) + hvL l j)) = rcL l (j + 1) := by
  have e : rcN l j (j / 2) + hvL l j = rcN l (j + 1) (j / 2) := by
    unfold rcN
    rw [if_neg (by omega), if_pos (by omega), show 2 * (j / 2) + 1 = j by omega]
  rw [e]
  unfold rcL
  rw [show (j + 1 + 1) / 2 = (j + 1) / 2 by omega]
  refine set_range _ (j / 2) _ (fun t => UInt8.ofNat (rcN l (j + 1) t)) fun t h1 ht => ?_
  congr 1
  unfold rcN
  by_cases h1 : 2 * t + 1 < j
  · rw [if_pos h1, if_pos (by omega)]
  · exfalso; omega
theorem rcN_odd (l : List UInt8) (j : Nat) (h : j % 2 = 1) : rcN l j (j / 2) = 16 * hvL l (j - 1) := by
  unfold rcN
  rw [if_neg (by omega), show 2 * (j / 2) = j - 1 by omega]
theorem rcL_end (l : List UInt8) : rcL l (l.length + l.length % 2) = packL l := by
  unfold rcL packL
  rw [show (l.length + l.length % 2 + 1) / 2 = (l.length + 1) / 2 by omega]
  apply List.map_congr_left
  intro t ht
  rw [List.mem_range] at ht
  unfold rcN pbyte
  rw [if_pos (by omega)]

/-- The half at place i of bytes. -/
def hb (l : List UInt8) (i : Nat) : Nat := if i % 2 = 0 then (l.getD (i / 2) 0).toNat / 16 else (l.getD (i / 2) 0).toNat % 16
theorem hb_lt (l : List UInt8) (i : Nat) : hb l i < 16 := by
  unfold hb
  have := (l.getD (i / 2) 0).toNat_lt
  split <;> omega
def gdig (l : List UInt8) (i : Nat) : UInt8 := UInt8.ofNat (48 + hb l i)
def bgetL (l : List UInt8) (n : Nat) : List UInt8 := (List.range n).map fun i => gdig l (i + n % 2)
theorem gdig_toNat (l : List UInt8) (i : Nat) : (gdig l i).toNat = 48 + hb l i := by
  have := hb_lt l i
  unfold gdig
  rw [UInt8.toNat_ofNat']
  omega
def bbad (l : List UInt8) (n : Nat) : Option Nat := (List.range n).find? fun i => decide (9 < hb l (i + n % 2))
/-- What is got: the digits, the error's number, its place. -/
def bget (l : List UInt8) (z : Int) : List UInt8 × Nat × Nat :=
  if z < 0 ∨ 999 < z then ([], 1, 0)
  else if l.length < (z.toNat + 1) / 2 then ([], 2, l.length)
  else if z.toNat % 2 = 1 ∧ hb l 0 ≠ 0 then ([], 4, 0)
  else match bbad l z.toNat with
    | some i => ([], 3, (i + z.toNat % 2) / 2)
    | none => (bgetL l z.toNat, 0, 0)
theorem bget_arg {l : List UInt8} {z : Int} (h : z < 0 ∨ 999 < z) : bget l z = ([], 1, 0) := by unfold bget; rw [if_pos h]
theorem bget_cut {l : List UInt8} {n : Nat} (h : n ≤ 999) (h' : l.length < (n + 1) / 2) : bget l n = ([], 2, l.length) := by
  unfold bget; rw [if_neg (by omega), Int.toNat_natCast, if_pos h']
theorem bget_pad {l : List UInt8} {n : Nat} (h : n ≤ 999) (h' : (n + 1) / 2 ≤ l.length) (h1 : n % 2 = 1) (h2 : hb l 0 ≠ 0) : bget l n = ([], 4, 0) := by
  unfold bget; rw [if_neg (by omega), Int.toNat_natCast, if_neg (by omega), if_pos ⟨h1, h2⟩]
theorem bget_form {l : List UInt8} {n k : Nat} (h : n ≤ 999) (h' : (n + 1) / 2 ≤ l.length) (h1 : n % 2 = 1 → hb l 0 = 0) (hk : k < n) (hb1 : 9 < hb l (k + n % 2)) (hb2 : ∀ i, i < k → hb l (i + n % 2) ≤ 9) :
    bget l n = ([], 3, (k + n % 2) / 2) := by
  have hf : bbad l n = some k := by
    unfold bbad
    rw [List.find?_range_eq_some]
    exact ⟨by simpa using hb1, by simpa using hk, fun j hj => by have := hb2 j hj; simpa using this⟩
  unfold bget
  rw [if_neg (by omega), Int.toNat_natCast, if_neg (by omega), if_neg (fun h => h.2 (h1 h.1)), hf]
theorem bget_ok {l : List UInt8} {n : Nat} (h : n ≤ 999) (h' : (n + 1) / 2 ≤ l.length) (h1 : n % 2 = 1 → hb l 0 = 0) (hb2 : ∀ i, i < n → hb l (i + n % 2) ≤ 9) : bget l n = (bgetL l n, 0, 0) := by
  have hf : bbad l n = none := by
    unfold bbad
    rw [List.find?_eq_none]
    intro i hi
    rw [List.mem_range] at hi
    have := hb2 i hi
    simpa using this
  unfold bget
  rw [if_neg (by omega), Int.toNat_natCast, if_neg (by omega), if_neg (fun h => h.2 (h1 h.1)), hf]
/-- The ways that a get may go. -/
theorem bget_cases (l : List UInt8) (z : Int) :
    (z < 0 ∨ 999 < z) ∨ ∃ n : Nat, z = n ∧ n ≤ 999 ∧ (l.length < (n + 1) / 2 ∨ (n + 1) / 2 ≤ l.length ∧ ((n % 2 = 1 ∧ hb l 0 ≠ 0) ∨ (n % 2 = 1 → hb l 0 = 0) ∧
      ((∃ k, k < n ∧ 9 < hb l (k + n % 2) ∧ ∀ i, i < k → hb l (i + n % 2) ≤ 9) ∨ ∀ i, i < n → hb l (i + n % 2) ≤ 9))) := by
  by_cases h : z < 0 ∨ 999 < z
  · exact .inl h
  · right
    obtain ⟨n, rfl⟩ := Int.eq_ofNat_of_zero_le (show 0 ≤ z by omega)
    refine ⟨n, rfl, by omega, ?_⟩
    by_cases h1 : l.length < (n + 1) / 2
    · exact .inl h1
    · refine .inr ⟨by omega, ?_⟩
      by_cases h2 : n % 2 = 1 ∧ hb l 0 ≠ 0
      · exact .inl h2
      · refine .inr ⟨fun h => by by_cases h0 : hb l 0 = 0; exact h0; exact absurd ⟨h, h0⟩ h2, ?_⟩
        cases hf : bbad l n with
        | none =>
          right
          intro i hi
          unfold bbad at hf
          rw [List.find?_eq_none] at hf
          have := hf i (List.mem_range.2 hi)
          simpa using this
        | some k =>
          left
          unfold bbad at hf
          rw [List.find?_range_eq_some] at hf
          obtain ⟨g1, g2, g3⟩ := hf
          exact ⟨k, by simpa using g2, by simpa using g1, fun i hi => by have := g3 i hi; simpa using this⟩
theorem bget_zero {l : List UInt8} {z : Int} (h : (bget l z).2.1 = 0) : ∃ n : Nat, z = n ∧ n ≤ 999 ∧ (n + 1) / 2 ≤ l.length ∧ (n % 2 = 1 → hb l 0 = 0) ∧ ∀ i, i < n → hb l (i + n % 2) ≤ 9 := by
  rcases bget_cases l z with g | ⟨n, rfl, hn, g | ⟨hl, ⟨g1, g2⟩ | ⟨g1, ⟨k, hk, hb1, hb2⟩ | g2⟩⟩⟩
  · rw [bget_arg g] at h; cases h
  · rw [bget_cut hn g] at h; cases h
  · rw [bget_pad hn hl g1 g2] at h; cases h
  · rw [bget_form hn hl g1 hk hb1 hb2] at h; cases h
  · exact ⟨n, rfl, hn, hl, g1, g2⟩
theorem bget_empty {l : List UInt8} {z : Int} (h : (bget l z).2.1 ≠ 0) : (bget l z).1 = [] := by
  rcases bget_cases l z with g | ⟨n, rfl, hn, g | ⟨hl, ⟨g1, g2⟩ | ⟨g1, ⟨k, hk, hb1, hb2⟩ | g2⟩⟩⟩
  · rw [bget_arg g]
  · rw [bget_cut hn g]
  · rw [bget_pad hn hl g1 g2]
  · rw [bget_form hn hl g1 hk hb1 hb2]
  · rw [bget_ok hn hl g1 g2] at h; exact absurd rfl h

/-- What is packed, halved. -/
theorem hb_packL {l : List UInt8} (hd : allD l = true) (more : List UInt8) (i : Nat) (hi : i < l.length + l.length % 2) : hb (packL l ++ more) i = hvL l i := by
  have h1 := hvL_lt hd (2 * (i / 2))
  have h2 := hvL_lt hd (2 * (i / 2) + 1)
  have hx : (packL l ++ more).getD (i / 2) 0 = pbyte l (i / 2) := by
    have hlt : i / 2 < (packL l).length := by rw [packL_length]; omega
    rw [List.getD_eq_getElem?_getD, List.getElem?_append_left hlt]
    unfold packL at hlt ⊢
    rw [List.getElem?_eq_getElem hlt]
    simp
  have hv : (pbyte l (i / 2)).toNat = 16 * hvL l (2 * (i / 2)) + hvL l (2 * (i / 2) + 1) := by
    unfold pbyte; rw [UInt8.toNat_ofNat']; omega
  unfold hb
  rw [hx, hv]
  by_cases h : i % 2 = 0
  · rw [if_pos h]
    rw [show 2 * (i / 2) = i by omega] at *
    omega
  · rw [if_neg h]
    rw [show 2 * (i / 2) + 1 = i by omega] at *
    omega
theorem bget_packL {l : List UInt8} (hd : allD l = true) (hl : l.length ≤ 999) (more : List UInt8) : bget (packL l ++ more) l.length = (l, 0, 0) := by
  have hh : ∀ i, i < l.length → hb (packL l ++ more) (i + l.length % 2) = dv (l.getD i 48) := fun i hi => by
    rw [hb_packL hd more _ (by omega), hvL_at l i hi, getD_in _ _ _ hi]
  rw [bget_ok hl (by rw [List.length_append, packL_length]; omega) (fun h => by rw [hb_packL hd more 0 (by omega), hvL_pad _ _ (by omega)]) (fun i hi => by
    rw [hh i hi]; have := dv_lt (allD_getD hd i); omega)]
  congr 1
  unfold bgetL
  apply List.ext_getElem
  · simp
  · intro i h1 h2
    simp
    unfold gdig
    rw [hh i h2, dv_of (allD_getD hd i), getD_in _ _ _ h2]

/-- What is got, packed. -/
theorem bgetL_length (l : List UInt8) (n : Nat) : (bgetL l n).length = n := by simp [bgetL]
theorem bgetL_at (l : List UInt8) (n t : Nat) (h : t < (bgetL l n).length) : (bgetL l n)[t] = gdig l (t + n % 2) := by simp [bgetL]
theorem bgetL_all {l : List UInt8} {n : Nat} (h : ∀ i, i < n → hb l (i + n % 2) ≤ 9) : allD (bgetL l n) = true := by
  unfold allD bgetL
  rw [List.all_eq_true]
  intro c hc
  rw [List.mem_map] at hc
  obtain ⟨i, hi, rfl⟩ := hc
  rw [List.mem_range] at hi
  have := h i hi
  rw [isD_iff, gdig_toNat]
  omega
theorem hvL_bgetL {l : List UInt8} {n : Nat} (h1 : n % 2 = 1 → hb l 0 = 0) (i : Nat) (hi : i < n + n % 2) : hvL (bgetL l n) i = hb l i := by
  by_cases h : i < n % 2
  · rw [hvL_pad _ _ (by rw [bgetL_length]; exact h), show i = 0 by omega, h1 (by omega)]
  · have e : i = (i - n % 2) + n % 2 := by omega
    have hk : i - n % 2 < (bgetL l n).length := by rw [bgetL_length]; omega
    have g := hvL_at (bgetL l n) (i - n % 2) hk
    rw [bgetL_length, ← e] at g
    rw [g]
    rw [bgetL_at]
    unfold dv
    rw [gdig_toNat, ← e]
    omega
theorem packL_bgetL {l : List UInt8} {n : Nat} (hl : (n + 1) / 2 ≤ l.length) (h1 : n % 2 = 1 → hb l 0 = 0) : packL (bgetL l n) = l.take ((n + 1) / 2) := by
  apply List.ext_getElem
  · rw [packL_length, bgetL_length, List.length_take]; omega
  · intro t g1 g2
    rw [packL_length, bgetL_length] at g1
    have a1 := hvL_bgetL h1 (2 * t) (by omega)
    have a2 := hvL_bgetL h1 (2 * t + 1) (by omega)
    rw [packL_at, List.getElem_take]
    unfold pbyte
    rw [a1, a2]
    unfold hb
    rw [if_pos (by omega), if_neg (by omega), show 2 * t / 2 = t by omega, show (2 * t + 1) / 2 = t by omega, getD_in _ _ _ (show t < l.length by omega)]
    apply UInt8.toNat_inj.1
    rw [UInt8.toNat_ofNat']
    have := l[t].toNat_lt
    omega

/-- Numbers of lists, to a base. -/
def valN (B : Nat) (l : List Nat) : Nat := l.foldl (fun n x => B * n + x) 0
theorem valN_snoc (B : Nat) (l : List Nat) (x : Nat) : valN B (l ++ [x]) = B * valN B l + x := by simp [valN, List.foldl_append]
theorem valN_from (B : Nat) (l : List Nat) (n : Nat) : l.foldl (fun n x => B * n + x) n = n * B ^ l.length + valN B l := by
  unfold valN
  induction l generalizing n with
  | nil => simp
  | cons x l ih =>
    rw [List.foldl_cons, ih, List.foldl_cons, ih (B * 0 + x), List.length_cons, Nat.pow_succ]
    rw [Nat.mul_zero, Nat.zero_add, Nat.add_mul, Nat.add_assoc]
    congr 1
    rw [Nat.mul_comm B n, Nat.mul_assoc, Nat.mul_comm B]
theorem valN_cons (B : Nat) (l : List Nat) (x : Nat) : valN B (x :: l) = x * B ^ l.length + valN B l := by
  rw [valN, List.foldl_cons, valN_from, Nat.mul_zero, Nat.zero_add]
theorem valN_lt (B : Nat) (l : List Nat) (h : ∀ x ∈ l, x < B) : valN B l < B ^ l.length := by
  induction l with
  | nil => simp [valN]
  | cons x l ih =>
    have h1 := h x (List.mem_cons_self ..)
    have h2 := ih fun y hy => h y (List.mem_cons_of_mem _ hy)
    rw [valN_cons, List.length_cons, Nat.pow_succ]
    have : (x + 1) * B ^ l.length ≤ B * B ^ l.length := Nat.mul_le_mul_right _ h1
    rw [Nat.add_mul, Nat.one_mul] at this
    rw [Nat.mul_comm (B ^ l.length) B]
    omega

theorem val_pack (l : List UInt8) (hd : allD l = true) : ∀ m, valN 256 ((List.range m).map fun t => (pbyte l t).toNat) = valN 16 ((List.range (2 * m)).map (hvL l)) := by
  intro m
  induction m with
  | zero => rfl
  | succ m ih =>
    have h1 := hvL_lt hd (2 * m)
    have h2 := hvL_lt hd (2 * m + 1)
    have hv : (pbyte l m).toNat = 16 * hvL l (2 * m) + hvL l (2 * m + 1) := by unfold pbyte; rw [UInt8.toNat_ofNat']; omega
    rw [List.range_succ, List.map_append, List.map_cons, List.map_nil, valN_snoc, ih, show 2 * (m + 1) = 2 * m + 1 + 1 by omega, List.range_succ, List.map_append, List.map_cons, List.map_nil, valN_snoc, List.range_succ, List.map_append, List.map_cons, List.map_nil, valN_snoc, hv]
    omega
theorem val_halves (l : List UInt8) : ∀ k, k ≤ l.length → valN 16 ((List.range (l.length % 2 + k)).map (hvL l)) = valN 16 ((l.take k).map dv) := by
  intro k
  induction k with
  | zero =>
    intro _
    rcases Nat.mod_two_eq_zero_or_one l.length with h | h
    · rw [h]; rfl
    · rw [h]
      have := hvL_pad l 0 (by omega)
      simp [valN, this]
  | succ k ih =>
    intro hk
    rw [← Nat.add_assoc, List.range_succ, List.map_append, List.map_cons, List.map_nil, valN_snoc, ih (by omega), List.take_succ_eq_append_getElem (by omega), List.map_append, List.map_cons, List.map_nil, valN_snoc, Nat.add_comm (l.length % 2) k, hvL_at l k (by omega)]
theorem val_packL (l : List UInt8) (hd : allD l = true) : valN 256 ((packL l).map UInt8.toNat) = valN 16 (l.map dv) := by
  have h := val_pack l hd ((l.length + 1) / 2)
  rw [show 2 * ((l.length + 1) / 2) = l.length % 2 + l.length by omega, val_halves l l.length (Nat.le_refl _), List.take_length] at h
  rw [← h]
  unfold packL
  rw [List.map_map]
  rfl

end Go.Proofs.YtlkpiapmdflahaaDoor

/-
  What bcd.Size and bcd.half answer: for every count; for every text and every place in it; in every world.
-/
namespace Go.Proofs.YtlkpiapmdflahaaDoor
open Go.RowKit

set_option maxRecDepth 100000 in
set_option maxHeartbeats 400000 in
theorem size_nat (n : Nat) (w : World) (h : n ≤ 9223372036854775807) :
    Calls Tryd.prog 68 #[.int .i64 (n : Int)] w fun e w' => e = .returned (.int .i64 (((n + 1) / 2 : Nat) : Int)) ∧ w = w' := by
  by_cases h1 : n < 1
  · have h2 : (n : Int) < 1 := by omega
    have e : (((n + 1) / 2 : Nat) : Int) = 0 := by omega
    go_enter Tryd.func68, Tryd.ntmps68
    go_wp2
    go_ret
    exact ⟨by rw [e]; rfl, rfl⟩
  · have h2 : (1 : Int) ≤ (n : Int) := by omega
    have e : (((n + 1) / 2 : Nat) : Int) = (n : Int) / 2 + (n : Int) % 2 := by omega
    go_enter Tryd.func68, Tryd.ntmps68
    go_wp2
    go_ret
    exact ⟨by rw [e]; rfl, rfl⟩
set_option maxRecDepth 100000 in
set_option maxHeartbeats 400000 in
theorem size_less (n : Int) (w : World) (h : n < 1) :
    Calls Tryd.prog 68 #[.int .i64 n] w fun e w' => e = .returned (.int .i64 0) ∧ w = w' := by
  go_enter Tryd.func68, Tryd.ntmps68
  go_wp2
  go_ret
  exact ⟨rfl, rfl⟩
set_option maxRecDepth 100000 in
set_option maxHeartbeats 400000 in
theorem half_any (b : ByteArray) (i : Nat) (w : World) (h : i / 2 < b.size) (hi : i ≤ 2000000000) :
    Calls Tryd.prog 69 #[.string b, .int .i64 (i : Int)] w fun e w' => e = .returned (.int .u8 ((hb b.data.toList i : Nat) : Int)) ∧ w = w' := by
  have hix := ix_str b (i / 2) h
  have hg : b.data.toList.getD (i / 2) 0 = b[i / 2] := getD_in _ _ _ (by simpa using h)
  have hd : ((i / 2 : Nat) : Int) = (i : Int) / 2 := by omega
  unfold hb
  rw [hg]
  generalize b[i / 2] = c at hix
  rw [hd] at hix
  have hc := c.toNat_lt
  have hc0 : (0 : Int) ≤ (c.toNat : Int) := by omega
  have hc1 : (c.toNat : Int) < 256 := by omega
  clear hd hg
  by_cases h2 : i % 2 = 0
  · have h3 : (i : Int) % 2 = 0 := by omega
    rw [if_pos h2]
    go_enter Tryd.func69, Tryd.ntmps69
    go_wp2
    go_ret
    exact ⟨by rw [Int.natCast_ediv]; rfl, rfl⟩
  · have h3 : (i : Int) % 2 = 1 := by omega
    have hand : bits .and .u8 (c.toNat : Int) 15 = (c.toNat : Int) % 16 := u8_and15 _ (by omega) (by omega)
    rw [if_neg h2]
    go_enter Tryd.func69, Tryd.ntmps69
    go_wp2
    go_ret
    exact ⟨by rw [Int.natCast_emod]; rfl, rfl⟩

end Go.Proofs.YtlkpiapmdflahaaDoor

/-
  What bcd.Put answers: for every text, in every world.
-/
namespace Go.Proofs.YtlkpiapmdflahaaDoor
open Go.RowKit

/-- May a text be packed? What it is then. -/
def bputB (l : List UInt8) : Bool := decide (l.length ≤ 999) && allD l
def bputS (l : List UInt8) : ByteArray := if bputB l = true then ⟨(packL l).toArray⟩ else ⟨#[]⟩
theorem bputS_yes {l : List UInt8} (h : bputB l = true) : bputS l = ⟨(packL l).toArray⟩ := by simp [bputS, h]
theorem bputS_no {l : List UInt8} (h : bputB l = false) : bputS l = ⟨#[]⟩ := by simp [bputS, h]
theorem bputB_yes {l : List UInt8} (h1 : l.length ≤ 999) (h2 : allD l = true) : bputB l = true := by simp [bputB, h1, h2]
theorem bputB_long {l : List UInt8} (h1 : 999 < l.length) : bputB l = false := by simp [bputB, show ¬ l.length ≤ 999 by omega]
theorem bputB_form {l : List UInt8} (h1 : allD l = false) : bputB l = false := by simp [bputB, h1]

theorem bput_no (s : ByteArray) (w : World) (hs : s.size ≤ maxLen) (h : bputB s.data.toList = false) :
    Calls Tryd.prog 56 #[.string s] w fun e w' => e = .returned (.tuple #[.string ⟨#[]⟩, .bool false]) ∧ Below w.heap.size w w' := by
  unfold maxLen at hs
  by_cases h1 : 999 < s.size
  · have t1 : decide ((999 : Int) < (s.size : Int)) = true := by simp; omega
    clear h
    go_enter Tryd.func56, Tryd.ntmps56
    go_wp2
    go_ret2
    exact ⟨rfl, Below.refl _ _⟩
  · have t1 : decide ((999 : Int) < (s.size : Int)) = false := by simp; omega
    have hd : allD s.data.toList = false := by
      cases hd : allD s.data.toList
      · rfl
      · rw [bputB_yes (by simp; omega) hd] at h; cases h
    have HA := Lib.hid (fun w => all_any s w)
    rw [hd] at HA
    clear h hd
    go_enter Tryd.func56, Tryd.ntmps56
    go_wp2_with fail
    refine (HA.out _).mono ?_
    rintro e w1 ⟨rfl, hb1⟩
    go_wp2_with fail
    go_ret2
    exact ⟨rfl, hb1⟩

theorem shl4 (x y : Nat) (hx : x < 10) (hy : y < 10) : bits .or .u8 (IntKind.u8.wrap ((x : Int) * 16)) (y : Int) = ((16 * x + y : Nat) : Int) := by
  have : ∀ x : Fin 10, ∀ y : Fin 10, bits .or .u8 (IntKind.u8.wrap ((x.val : Int) * 16)) (y.val : Int) = ((16 * x.val + y.val : Nat) : Int) := by decide +kernel
  exact this ⟨x, hx⟩ ⟨y, hy⟩

set_option maxRecDepth 100000 in
set_option maxHeartbeats 1600000 in
theorem bput_yes (s : ByteArray) (w : World) (h : bputB s.data.toList = true) :
    Calls Tryd.prog 56 #[.string s] w fun e w' => e = .returned (.tuple #[.string ⟨(packL s.data.toList).toArray⟩, .bool true]) ∧ Below w.heap.size w w' := by
  obtain ⟨i0, hi, hz0, hz1, hz2⟩ := info_parts Tryd.infoX8
  have hsz : s.data.toList.length = s.size := by simp
  have hle : s.size ≤ 999 := by unfold bputB at h; simp at h; exact h.1
  have hd : allD s.data.toList = true := by unfold bputB at h; simp at h; exact h.2
  have t1 : decide ((999 : Int) < (s.size : Int)) = false := by simp; omega
  have HA := Lib.hid (fun w => all_any s w)
  rw [hd] at HA
  have HZ := Lib.hid (fun w => size_nat s.size w (by omega))
  have HD := Lib.hid hd
  clear h hd
  go_enter Tryd.func56, Tryd.ntmps56
  go_wp2_with fail
  refine (HA.out _).mono ?_
  rintro e w1 ⟨rfl, hb1⟩
  go_wp2_with fail
  refine (HZ.out _).mono ?_
  rintro e w2 ⟨rfl, rfl⟩
  go_wp2_with (at_make; refine wpList_make_full _ rfl _ _ 74 rfl w.heap.size 5 i0 (.int .u8 0) 1 Tryd.underlying74 hi hz0 hz1 _ _ _ _ ((s.size + 1) / 2) rfl rfl rfl rfl ?b2 ?b3 ?b4 ?_)
  case b2 => rw [hz2]; omega
  case b3 => unfold maxLen; omega
  case b4 => exact hb1.size
  intro w3 hown hg
  have hb3 : Below w.heap.size w w3 := hbt hb1 ((Below.refl _ _).grown hg (Nat.le_refl _) (by simp))
  rw [toList_madeCells_one] at hown
  clear hg hb1
  have HO := Lib.hid hown; clear hown
  have hst : List.replicate ((s.size + 1) / 2) (Value.int .u8 0) = (pcL s.data.toList ((s.size + 1) / 2) (0 + s.size % 2)).map xb := by
    rw [Nat.zero_add, ← hsz, pcL_start, List.map_replicate]; rfl
  rw [hst] at HO
  clear hst
  generalize w1.heap.size = g at HO
  go_wp2
  go_loopw [25] (fun i wr => ∃ k : Nat, k ≤ s.size ∧ i = .int .i64 (k : Int) ∧ wr.ownsRow w.heap.size 5 1 (.slice (some ⟨g, 0, none⟩) ((s.size + 1) / 2) ((s.size + 1) / 2)) ((s.size + 1) / 2) ((pcL s.data.toList ((s.size + 1) / 2) (k + s.size % 2)).map xb) ∧ Below w.heap.size w wr) (fun i _ => s.size - (intOf i).toNat)
  case atStart => exact ⟨0, Nat.zero_le _, rfl, HO.out, hb3⟩
  case round =>
    obtain ⟨k, hk, rfl, hown, hb⟩ := hrel
    by_cases hlt : k < s.size
    · have hj : (k : Int) + (s.size : Int) % 2 = ((k + s.size % 2 : Nat) : Int) := by omega
      have hvk : hvL s.data.toList (k + s.size % 2) = dv s[k] := by
        rw [show s.size % 2 = s.data.toList.length % 2 from by rw [hsz]]
        exact hvL_at s.data.toList k (by omega)
      have hq1 : pcN s.data.toList (k + s.size % 2) ((k + s.size % 2) / 2) < 10 := by
        rw [pcN_old]
        split
        · omega
        · exact hvL_lt HD.out _
      have hnew := pcN_new s.data.toList (k + s.size % 2)
      have hset := pcL_set s.data.toList ((s.size + 1) / 2) (k + s.size % 2) _ hnew
      have hcell := hown.cellAt ((k + s.size % 2) / 2) (by omega)
      rw [List.getElem?_map, show (pcL s.data.toList ((s.size + 1) / 2) (k + s.size % 2))[(k + s.size % 2) / 2]? = some (UInt8.ofNat (pcN s.data.toList (k + s.size % 2) ((k + s.size % 2) / 2))) from by
        unfold pcL; rw [List.getElem?_map, List.getElem?_range (by omega)]; rfl] at hcell
      have hfro := hown.frozenAt ((k + s.size % 2) / 2)
      have hstd := hown.stored ((k + s.size % 2) / 2) (xb (UInt8.ofNat (16 * pcN s.data.toList (k + s.size % 2) ((k + s.size % 2) / 2) + hvL s.data.toList (k + s.size % 2))))
      have hdg : isD s[k] = true := by
        have := allD_getD HD.out k
        rwa [getD_in _ _ _ (by omega)] at this
      have hdv := dv_lt hdg
      rw [isD_iff] at hdg
      have hix := ix_str s k hlt
      rw [hvk] at hnew hset hstd
      have hdv2 : dv s[k] = s[k].toNat - 48 := rfl
      rw [← List.map_set, hset] at hstd
      generalize s[k] = c at *
      have hp : (k + s.size % 2) / 2 < (s.size + 1) / 2 := by omega
      generalize hjj : k + s.size % 2 = j at *
      generalize hpp : j / 2 = p at *
      generalize hq : pcN s.data.toList j p = q at *
      rw [show (Option.map xb (some (UInt8.ofNat q))) = some (.int .u8 (q : Int)) from by simp [xb]; omega] at hcell
      have hix0 : ((k : Int) + (s.size : Int) % 2) / 2 = (p : Int) := by omega
      generalize hm : (s.size + 1) / 2 = m at *
      have hpm : (p : Int) < (m : Int) := by omega
      have HW := Lib.hid hown
      have HS := Lib.hid hstd
      have hsub : IntKind.u8.wrap ((c.toNat : Int) - 48) = ((dv c : Nat) : Int) := by rw [IntWalk.u8_in _ (by omega)]; omega
      have HJ := Lib.hid hjj
      clear hown hstd hnew hset hvk hj hdv2 hdg hpp hjj hm hq HA HZ HO
      go_wp2
      refine wp_region_noPanic ?_
      refine wp_region_late (fun u => u.cell? ⟨g, p, none⟩ = some (.int .u8 (q : Int))) 13 (by kernel_rfl) (by simpa using hcell) (fun hT => ?_)
      refine late_val (i := 0) (v := ?_) rfl (by kernel_rfl) (by kernel_rfl) (by kernel_rfl) (by kernel_rfl) (fun _ _ _ h => h) (by rfl) (fun u hu => ?_) hT ?_
      rotate_left
      · ((try dsimp only at hu); go_simp; try (with_reducible rfl))
      try simp only [Act.put, List.setIfInBounds_toArray, List.set_cons_zero, List.set_cons_succ]
      refine late_val (i := 1) (v := ?_) rfl (by kernel_rfl) (by kernel_rfl) (by kernel_rfl) (by kernel_rfl) (fun _ _ _ h => h) (by rfl) (fun u hu => ?_) hT ?_
      rotate_left
      · ((try dsimp only at hu); go_simp; try (with_reducible rfl))
      try simp only [Act.put, List.setIfInBounds_toArray, List.set_cons_zero, List.set_cons_succ]
      refine late_val (i := 2) (v := ?_) rfl (by kernel_rfl) (by kernel_rfl) (by kernel_rfl) (by kernel_rfl) (fun _ _ _ h => h) (by rfl) (fun u hu => ?_) hT ?_
      rotate_left
      · ((try dsimp only at hu); go_simp; try (with_reducible rfl))
      try simp only [Act.put, List.setIfInBounds_toArray, List.set_cons_zero, List.set_cons_succ]
      refine late_val (i := 3) (v := ?_) rfl (by kernel_rfl) (by kernel_rfl) (by kernel_rfl) (by kernel_rfl) (fun _ _ _ h => h) (by rfl) (fun u hu => ?_) hT ?_
      rotate_left
      · ((try dsimp only at hu); go_simp; try (with_reducible rfl))
      try simp only [Act.put, List.setIfInBounds_toArray, List.set_cons_zero, List.set_cons_succ]
      refine late_val (i := 4) (v := ?_) rfl (by kernel_rfl) (by kernel_rfl) (by kernel_rfl) (by kernel_rfl) (fun _ _ _ h => h) (by rfl) (fun u hu => ?_) hT ?_
      rotate_left
      · ((try dsimp only at hu); go_simp; try (with_reducible rfl))
      try simp only [Act.put, List.setIfInBounds_toArray, List.set_cons_zero, List.set_cons_succ]
      refine late_val (i := 5) (v := ?_) rfl (by kernel_rfl) (by kernel_rfl) (by kernel_rfl) (by kernel_rfl) (fun _ _ _ h => h) (by rfl) (fun u hu => ?_) hT ?_
      rotate_left
      · ((try dsimp only at hu); go_simp; try (with_reducible rfl))
      try simp only [Act.put, List.setIfInBounds_toArray, List.set_cons_zero, List.set_cons_succ]
      refine late_val (i := 6) (v := ?_) rfl (by kernel_rfl) (by kernel_rfl) (by kernel_rfl) (by kernel_rfl) (fun _ _ _ h => h) (by rfl) (fun u hu => ?_) hT ?_
      rotate_left
      · ((try dsimp only at hu); go_simp; try (with_reducible rfl))
      try simp only [Act.put, List.setIfInBounds_toArray, List.set_cons_zero, List.set_cons_succ]
      refine late_val (i := 7) (v := ?_) rfl (by kernel_rfl) (by kernel_rfl) (by kernel_rfl) (by kernel_rfl) (fun _ _ _ h => h) (by rfl) (fun u hu => ?_) hT ?_
      rotate_left
      · ((try dsimp only at hu); go_simp; try (with_reducible rfl))
      try simp only [Act.put, List.setIfInBounds_toArray, List.set_cons_zero, List.set_cons_succ]
      refine late_val (i := 8) (v := ?_) rfl (by kernel_rfl) (by kernel_rfl) (by kernel_rfl) (by kernel_rfl) (fun _ _ _ h => h) (by rfl) (fun u hu => ?_) hT ?_
      rotate_left
      · ((try dsimp only at hu); go_simp; try (with_reducible rfl))
      try simp only [Act.put, List.setIfInBounds_toArray, List.set_cons_zero, List.set_cons_succ]
      refine late_val (i := 9) (v := ?_) rfl (by kernel_rfl) (by kernel_rfl) (by kernel_rfl) (by kernel_rfl) (fun _ _ _ h => h) (by rfl) (fun u hu => ?_) hT ?_
      rotate_left
      · ((try dsimp only at hu); go_simp; try (with_reducible rfl))
      try simp only [Act.put, List.setIfInBounds_toArray, List.set_cons_zero, List.set_cons_succ]
      refine late_val (i := 10) (v := ?_) rfl (by kernel_rfl) (by kernel_rfl) (by kernel_rfl) (by kernel_rfl) (fun _ _ _ h => h) (by rfl) (fun u hu => ?_) hT ?_
      rotate_left
      · ((try dsimp only at hu); go_simp; try (with_reducible rfl))
      try simp only [Act.put, List.setIfInBounds_toArray, List.set_cons_zero, List.set_cons_succ]
      refine late_val (i := 11) (v := ?_) rfl (by kernel_rfl) (by kernel_rfl) (by kernel_rfl) (by kernel_rfl) (fun _ _ _ h => h) (by rfl) (fun u hu => ?_) hT ?_
      rotate_left
      · ((try dsimp only at hu); go_simp; try (with_reducible rfl))
      try simp only [Act.put, List.setIfInBounds_toArray, List.set_cons_zero, List.set_cons_succ]
      refine late_val (i := 12) (v := ?_) rfl (by kernel_rfl) (by kernel_rfl) (by kernel_rfl) (by kernel_rfl) (fun _ _ _ h => h) (by rfl) (fun u hu => ?_) hT ?_
      rotate_left
      · ((try dsimp only at hu); go_simp; try (with_reducible rfl))
      try simp only [Act.put, List.setIfInBounds_toArray, List.set_cons_zero, List.set_cons_succ]
      refine late_only rfl (by kernel_rfl) (by rfl) (fun K hK => ?_)
      go_simp
      refine hK.out _ _ ?_
      clear hK
      try simp only [Act.put, List.setIfInBounds_toArray, List.set_cons_zero, List.set_cons_succ]
      refine late_done (by kernel_rfl) (NoPanic.normal ?_) _
      rw [shl4 q (dv c) hq1 hdv]
      have hu : xb (UInt8.ofNat (16 * q + dv c)) = .int .u8 ((16 * q + dv c : Nat) : Int) := by
        unfold xb; rw [UInt8.toNat_ofNat', Nat.mod_eq_of_lt (by omega)]
      rw [hu] at HS
      have HR := Lib.hid HS.out.1.drew
      have HB : Hid (Below w.heap.size w (wr.setCell ⟨g, p, none⟩ (.int .u8 ((16 * q + dv c : Nat) : Int))).drew) := (hb.grown HS.out.2 hb.size (by intro x hx; have := own_base HW.out; simp at hx; omega)).drew
      clear HS HW hu hix hb
      generalize 16 * q + dv c = n at HR HB ⊢
      go_wp2
      go_roundw
      case rel => exact ⟨k + 1, by omega, by go_num, by rw [show k + 1 + s.size % 2 = j + 1 from by have := HJ.out; omega]; exact HR.out, HB.out⟩
      case measure => simp [intOf]; omega
    · have hkn : k = s.size := by omega
      have hcv : (convert 74 9 (.slice (some ⟨g, 0, none⟩) ((s.size + 1) / 2) ((s.size + 1) / 2))).run Tryd.prog wr = .ok (.string ⟨(packL s.data.toList).toArray⟩) wr := by
        have hl : pcL s.data.toList ((s.size + 1) / 2) (k + s.size % 2) = packL s.data.toList := by
          have := pcL_end s.data.toList
          rw [hsz] at this
          rw [hkn, this]
        have hlen : (packL s.data.toList).length = (s.size + 1) / 2 := by rw [packL_length, hsz]
        have h := run_convert_bytes_back (P := Tryd.prog) wr 74 9 5 ⟨g, 0, none⟩ ((s.size + 1) / 2) (packL s.data.toList) Tryd.underlying74 Tryd.underlying5 Tryd.underlying9 (by
          intro i hi
          rw [hl] at hown
          have hc := hown.cellAt i (by omega)
          rw [show (⟨g, 0, none⟩ : Addr).add i = ⟨g, i, none⟩ from by rw [Addr.add_lit, Nat.zero_add], hc]
          simp [xb, hi])
        rw [hlen] at h
        exact h
      clear hown hkn HO hb3
      go_wp2
      go_ret2
      exact ⟨rfl, hb⟩

theorem bput_any (s : ByteArray) (w : World) (hs : s.size ≤ maxLen) :
    Calls Tryd.prog 56 #[.string s] w fun e w' => e = .returned (.tuple #[.string (bputS s.data.toList), .bool (bputB s.data.toList)]) ∧ Below w.heap.size w w' := by
  cases h : bputB s.data.toList
  · rw [bputS_no h]; exact bput_no s w hs h
  · rw [bputS_yes h]; exact bput_yes s w h

end Go.Proofs.YtlkpiapmdflahaaDoor

/-
  What bcd.Get answers: for every text and every count, in every world.
-/
namespace Go.Proofs.YtlkpiapmdflahaaDoor
open Go.RowKit

/-- What is got, as a value. -/
def bgetV (r : List UInt8 × Nat × Nat) : Value := .tuple #[.string ⟨r.1.toArray⟩, .int .i64 (r.2.1 : Int), .int .i64 (r.2.2 : Int)]

theorem bget_w_arg (b : ByteArray) (z : Int) (w : World) (h : z < 0 ∨ 999 < z) :
    Calls Tryd.prog 38 #[.string b, .int .i64 z] w fun e w' => e = .returned (bgetV ([], 1, 0)) ∧ Below w.heap.size w w' := by
  by_cases h0 : z < 0
  · have t1 : decide (z < 0) = true := by simpa using h0
    clear h
    go_enter Tryd.func38, Tryd.ntmps38
    go_wp2
    go_ret3
    exact ⟨rfl, Below.refl _ _⟩
  · have t1 : decide (z < 0) = false := by simpa using h0
    have t2 : decide (999 < z) = true := by simp; omega
    clear h
    go_enter Tryd.func38, Tryd.ntmps38
    go_wp2
    go_ret3
    exact ⟨rfl, Below.refl _ _⟩

theorem bget_w_cut (b : ByteArray) (n : Nat) (w : World) (h : n ≤ 999) (h1 : b.size < (n + 1) / 2) :
    Calls Tryd.prog 38 #[.string b, .int .i64 (n : Int)] w fun e w' => e = .returned (bgetV ([], 2, b.size)) ∧ Below w.heap.size w w' := by
  have HZ := Lib.hid (fun w => size_nat n w (by omega))
  have t1 : decide ((n : Int) < 0) = false := by simp
  have t2 : decide ((999 : Int) < (n : Int)) = false := by simp; omega
  generalize (n + 1) / 2 = m at *
  have t3 : decide ((b.size : Int) < (m : Int)) = true := by simp; omega
  go_enter Tryd.func38, Tryd.ntmps38
  go_wp2_with fail
  refine (HZ.out _).mono ?_
  rintro e w1 ⟨rfl, rfl⟩
  go_wp2_with fail
  go_ret3
  exact ⟨rfl, Below.refl _ _⟩

theorem bget_w_pad (b : ByteArray) (n : Nat) (w : World) (h : n ≤ 999) (h1 : (n + 1) / 2 ≤ b.size) (h2 : n % 2 = 1) (h3 : hb b.data.toList 0 ≠ 0) :
    Calls Tryd.prog 38 #[.string b, .int .i64 (n : Int)] w fun e w' => e = .returned (bgetV ([], 4, 0)) ∧ Below w.heap.size w w' := by
  have HZ := Lib.hid (fun w => size_nat n w (by omega))
  have HH := Lib.hid (fun w => half_any b 0 w (by omega) (by omega))
  have t1 : decide ((n : Int) < 0) = false := by simp
  have t2 : decide ((999 : Int) < (n : Int)) = false := by simp; omega
  have h2' : (n : Int) % 2 = 1 := by omega
  generalize hb b.data.toList 0 = q at *
  generalize (n + 1) / 2 = m at *
  have t3 : decide ((b.size : Int) < (m : Int)) = false := by simp; omega
  have t4 : (q : Int) ≠ 0 := by omega
  go_enter Tryd.func38, Tryd.ntmps38
  go_wp2_with fail
  refine (HZ.out _).mono ?_
  rintro e w1 ⟨rfl, rfl⟩
  go_wp2_with fail
  refine (HH.out _).mono ?_
  rintro e w1 ⟨rfl, rfl⟩
  go_wp2_with fail
  go_ret3
  exact ⟨rfl, Below.refl _ _⟩

/-- The round's relation; d: the halves that stand for no digit. -/
def GetRel (l : List UInt8) (n d : Nat) (w : World) (v i : Value) (wr : World) : Prop :=
  ∃ k cap : Nat, ∃ g, k ≤ n ∧ i = .int .i64 ((k + d : Nat) : Int) ∧ v = .slice (some ⟨g, 0, none⟩) k cap ∧ (∀ i, i < k → hb l (i + d) ≤ 9) ∧
    wr.ownsRow w.heap.size 5 1 (.slice (some ⟨g, 0, none⟩) k cap) k (((List.range k).map fun i => gdig l (i + d)).map xb) ∧ Below w.heap.size w wr
theorem xb_gdig (l : List UInt8) (i : Nat) : xb (gdig l i) = .int .u8 (48 + (hb l i : Int)) := by
  unfold xb; rw [gdig_toNat]; simp

set_option maxRecDepth 100000 in
set_option maxHeartbeats 1600000 in
theorem bget_w_even (b : ByteArray) (n : Nat) (w : World) (h : n ≤ 999) (h1 : (n + 1) / 2 ≤ b.size) (h2 : n % 2 = 0) :
    Calls Tryd.prog 38 #[.string b, .int .i64 (n : Int)] w fun e w' => e = .returned (bgetV (bget b.data.toList n)) ∧ Below w.heap.size w w' := by
  obtain ⟨i0, hi, hz0, hz1, hz2⟩ := info_parts Tryd.infoX8
  have hbl : b.data.toList.length = b.size := by simp
  have HZ := Lib.hid (fun w => size_nat n w (by omega))
  have t1 : decide ((n : Int) < 0) = false := by simp
  have t2 : decide ((999 : Int) < (n : Int)) = false := by simp; omega
  have h2' : (n : Int) % 2 = 0 := by omega
  have t3 := h1
  have H1 := Lib.hid h1
  clear h1
  generalize (n + 1) / 2 = m at HZ t3
  go_enter Tryd.func38, Tryd.ntmps38
  go_wp2_with fail
  refine (HZ.out _).mono ?_
  rintro e w1 ⟨rfl, rfl⟩
  go_wp2_with (at_make; refine wpList_make_own _ rfl _ _ 74 rfl w.heap.size 5 i0 (.int .u8 0) 1 Tryd.underlying74 hi hz0 hz1 _ _ _ n rfl rfl rfl ?b2 ?b3 ?b4 ?_)
  case b2 => rw [hz2]; omega
  case b3 => unfold maxLen; omega
  case b4 => exact Nat.le_refl _
  intro w1 hown hg
  have hb1 : Below w.heap.size w w1 := (Below.refl _ _).grown hg (Nat.le_refl _) (by simp)
  clear hg
  have HO := Lib.hid hown; clear hown
  go_wp2
  have HP := Lib.hid h2
  clear h2 h2'
  go_loopw [8, 9] (GetRel b.data.toList n 0 w) (fun _ i _ => n + 0 - (intOf i).toNat)
  case atStart => exact ⟨0, n, w.heap.size, Nat.zero_le _, rfl, rfl, fun i hi => absurd hi (by omega), HO.out, hb1⟩
  case round =>
    obtain ⟨k, cap, g, hk, rfl, rfl, hall, hown, hb'⟩ := hrel
    by_cases hlt : k < n
    · have hpb : (k + 0) / 2 < b.size := by have := H1.out; have := HP.out; omega
      have hpn : ((k + 0 : Nat) : Int) < (n : Int) + 0 := by omega
      have HH := Lib.hid (fun w => half_any b (k + 0) w hpb (by omega))
      have hq := hb_lt b.data.toList (k + 0)
      have HG := Lib.hid (xb_gdig b.data.toList (k + 0))
      have HF := Lib.hid (fun (h9 : 9 < hb b.data.toList (k + 0)) => bget_form (l := b.data.toList) h (by rw [hbl]; exact H1.out) (fun h => absurd h (by have := HP.out; omega)) hlt (by rw [HP.out]; exact h9) (by rw [HP.out]; exact hall))
      have HA := Lib.hid hall
      have HW := Lib.hid hown
      clear hall hown
      rw [HP.out] at HF
      generalize hqq : hb b.data.toList (k + 0) = q at HH hq HF HG
      generalize hpp : k + 0 = p at *
      by_cases h9 : 9 < q
      · have hres := HF.out h9
        have HRS := Lib.hid hres
        clear hres HF HA HW
        go_wp2_with fail
        refine (HH.out _).mono ?_
        rintro e w2 ⟨rfl, rfl⟩
        go_wp2_with fail
        go_ret3
        exact ⟨by rw [HRS.out]; rfl, hb'⟩
      · have hbz := hb'.size
        have hsum : IntKind.u8.wrap (48 + (q : Int)) = 48 + (q : Int) := IntWalk.u8_in _ (by omega)
        have HQ := Lib.hid hqq
        have HPP := Lib.hid hpp
        clear HF hqq hpp
        go_wp2_with fail
        refine (HH.out _).mono ?_
        rintro e w2 ⟨rfl, rfl⟩
        go_wp2_with (at_builtin; refine wpList_append_lies _ rfl _ _ _ rfl w.heap.size 5 i0 _ 1 1 Tryd.underlying74 hi hz0 hz1 hz2 rfl (by omega) (.slice (some ⟨g, 0, none⟩) k cap) k _ rfl (HW.out.alloc _) ⟨wr.heap.size, 0, none⟩ 1 1 [.int .u8 (48 + (q : Int))] rfl rfl (World.news_of_block (cs := #[.int .u8 (48 + (q : Int))]) (t := 5) (fr := (0, 0)) (heap_alloc_new wr _)) (by simp [Value.oneCell']) (by omega) (by unfold maxLen; omega) (by omega) (by simp; omega) (wr.heap.size + 1) (by simp) ?_; intro g' cap' w2 hown2 hgrow hat hlt2)
        have hb2 : Below w.heap.size w w2 := (hb'.alloc hbz _).grown hgrow (by simp; omega) (by intro q hq; have := own_base HW.out; simp [Value.ownBlock] at hq; omega)
        have HW2 := Lib.hid hown2; clear hown2 hgrow hat hlt2
        go_wp2
        go_roundw
        case rel =>
          have hpp := HPP.out
          refine ⟨k + 1, cap', g', by omega, by rw [show k + 1 + 0 = p + 1 from by omega]; go_num, rfl, fun i hi => ?_, ?_, hb2⟩
          · by_cases hik : i < k
            · exact HA.out i hik
            · rw [show i + 0 = p from by omega, HQ.out]; omega
          · have hg := HG.out
            rw [← hpp] at hg
            rw [List.range_succ, List.map_append, List.map_append, List.map_cons, List.map_nil, List.map_cons, List.map_nil, hg]
            exact HW2.out
        case measure => simp [intOf]; have := HPP.out; omega
    · have hkn : k = n := by omega
      subst hkn
      have HRS : Hid (bget b.data.toList k = (bgetL b.data.toList k, 0, 0)) := bget_ok h (by rw [hbl]; exact H1.out) (fun h => absurd h (by have := HP.out; omega)) (by rw [HP.out]; exact hall)
      have hcv : (convert 74 9 (.slice (some ⟨g, 0, none⟩) k cap)).run Tryd.prog wr = .ok (.string ⟨(bgetL b.data.toList k).toArray⟩) wr := by
        have hl : ((List.range k).map fun i => gdig b.data.toList (i + 0)) = bgetL b.data.toList k := by unfold bgetL; rw [HP.out]
        have hlen := bgetL_length b.data.toList k
        have h := run_convert_bytes_back (P := Tryd.prog) wr 74 9 5 ⟨g, 0, none⟩ cap (bgetL b.data.toList k) Tryd.underlying74 Tryd.underlying5 Tryd.underlying9 (by
          intro i hi
          rw [hl] at hown
          have hc := hown.cellAt i (by omega)
          rw [show (⟨g, 0, none⟩ : Addr).add i = ⟨g, i, none⟩ from by rw [Addr.add_lit, Nat.zero_add], hc]
          simp [xb, hi])
        rw [hlen] at h
        exact h
      clear hown hall HO hb1
      have hend : ¬ (((k + 0 : Nat) : Int) < (k : Int) + 0) := by omega
      generalize hpp : k + 0 = p at *
      go_wp2
      go_ret3
      exact ⟨by rw [HRS.out]; rfl, hb'⟩

set_option maxRecDepth 100000 in
set_option maxHeartbeats 1600000 in
theorem bget_w_odd (b : ByteArray) (n : Nat) (w : World) (h : n ≤ 999) (h1 : (n + 1) / 2 ≤ b.size) (h2 : n % 2 = 1) (h3 : hb b.data.toList 0 = 0) :
    Calls Tryd.prog 38 #[.string b, .int .i64 (n : Int)] w fun e w' => e = .returned (bgetV (bget b.data.toList n)) ∧ Below w.heap.size w w' := by
  obtain ⟨i0, hi, hz0, hz1, hz2⟩ := info_parts Tryd.infoX8
  have hbl : b.data.toList.length = b.size := by simp
  have HZ := Lib.hid (fun w => size_nat n w (by omega))
  have t1 : decide ((n : Int) < 0) = false := by simp
  have t2 : decide ((999 : Int) < (n : Int)) = false := by simp; omega
  have h2' : (n : Int) % 2 = 1 := by omega
  have t3 := h1
  have HH0 := Lib.hid (fun w => half_any b 0 w (by omega) (by omega))
  rw [h3] at HH0
  have H3 := Lib.hid h3
  clear h3
  have H1 := Lib.hid h1
  clear h1
  generalize (n + 1) / 2 = m at HZ t3
  go_enter Tryd.func38, Tryd.ntmps38
  go_wp2_with fail
  refine (HZ.out _).mono ?_
  rintro e w1 ⟨rfl, rfl⟩
  go_wp2_with fail
  refine (HH0.out _).mono ?_
  rintro e w1 ⟨rfl, rfl⟩
  go_wp2_with (at_make; refine wpList_make_own _ rfl _ _ 74 rfl w.heap.size 5 i0 (.int .u8 0) 1 Tryd.underlying74 hi hz0 hz1 _ _ _ n rfl rfl rfl ?b2 ?b3 ?b4 ?_)
  case b2 => rw [hz2]; omega
  case b3 => unfold maxLen; omega
  case b4 => exact Nat.le_refl _
  intro w1 hown hg
  have hb1 : Below w.heap.size w w1 := (Below.refl _ _).grown hg (Nat.le_refl _) (by simp)
  clear hg
  have HO := Lib.hid hown; clear hown
  go_wp2
  have HP := Lib.hid h2
  clear h2 h2'
  go_loopw [8, 9] (GetRel b.data.toList n 1 w) (fun _ i _ => n + 1 - (intOf i).toNat)
  case atStart => exact ⟨0, n, w.heap.size, Nat.zero_le _, rfl, rfl, fun i hi => absurd hi (by omega), HO.out, hb1⟩
  case round =>
    obtain ⟨k, cap, g, hk, rfl, rfl, hall, hown, hb'⟩ := hrel
    by_cases hlt : k < n
    · have hpb : (k + 1) / 2 < b.size := by have := H1.out; have := HP.out; omega
      have hpn : ((k + 1 : Nat) : Int) < (n : Int) + 1 := by omega
      have HH := Lib.hid (fun w => half_any b (k + 1) w hpb (by omega))
      have hq := hb_lt b.data.toList (k + 1)
      have HG := Lib.hid (xb_gdig b.data.toList (k + 1))
      have HF := Lib.hid (fun (h9 : 9 < hb b.data.toList (k + 1)) => bget_form (l := b.data.toList) h (by rw [hbl]; exact H1.out) (fun _ => H3.out) hlt (by rw [HP.out]; exact h9) (by rw [HP.out]; exact hall))
      have HA := Lib.hid hall
      have HW := Lib.hid hown
      clear hall hown
      rw [HP.out] at HF
      generalize hqq : hb b.data.toList (k + 1) = q at HH hq HF HG
      generalize hpp : k + 1 = p at *
      by_cases h9 : 9 < q
      · have hres := HF.out h9
        have HRS := Lib.hid hres
        clear hres HF HA HW
        go_wp2_with fail
        refine (HH.out _).mono ?_
        rintro e w2 ⟨rfl, rfl⟩
        go_wp2_with fail
        go_ret3
        exact ⟨by rw [HRS.out]; rfl, hb'⟩
      · have hbz := hb'.size
        have hsum : IntKind.u8.wrap (48 + (q : Int)) = 48 + (q : Int) := IntWalk.u8_in _ (by omega)
        have HQ := Lib.hid hqq
        have HPP := Lib.hid hpp
        clear HF hqq hpp
        go_wp2_with fail
        refine (HH.out _).mono ?_
        rintro e w2 ⟨rfl, rfl⟩
        go_wp2_with (at_builtin; refine wpList_append_lies _ rfl _ _ _ rfl w.heap.size 5 i0 _ 1 1 Tryd.underlying74 hi hz0 hz1 hz2 rfl (by omega) (.slice (some ⟨g, 0, none⟩) k cap) k _ rfl (HW.out.alloc _) ⟨wr.heap.size, 0, none⟩ 1 1 [.int .u8 (48 + (q : Int))] rfl rfl (World.news_of_block (cs := #[.int .u8 (48 + (q : Int))]) (t := 5) (fr := (0, 0)) (heap_alloc_new wr _)) (by simp [Value.oneCell']) (by omega) (by unfold maxLen; omega) (by omega) (by simp; omega) (wr.heap.size + 1) (by simp) ?_; intro g' cap' w2 hown2 hgrow hat hlt2)
        have hb2 : Below w.heap.size w w2 := (hb'.alloc hbz _).grown hgrow (by simp; omega) (by intro q hq; have := own_base HW.out; simp [Value.ownBlock] at hq; omega)
        have HW2 := Lib.hid hown2; clear hown2 hgrow hat hlt2
        go_wp2
        go_roundw
        case rel =>
          have hpp := HPP.out
          refine ⟨k + 1, cap', g', by omega, by rw [show k + 1 + 1 = p + 1 from by omega]; go_num, rfl, fun i hi => ?_, ?_, hb2⟩
          · by_cases hik : i < k
            · exact HA.out i hik
            · rw [show i + 1 = p from by omega, HQ.out]; omega
          · have hg := HG.out
            rw [← hpp] at hg
            rw [List.range_succ, List.map_append, List.map_append, List.map_cons, List.map_nil, List.map_cons, List.map_nil, hg]
            exact HW2.out
        case measure => simp [intOf]; have := HPP.out; omega
    · have hkn : k = n := by omega
      subst hkn
      have HRS : Hid (bget b.data.toList k = (bgetL b.data.toList k, 0, 0)) := bget_ok h (by rw [hbl]; exact H1.out) (fun _ => H3.out) (by rw [HP.out]; exact hall)
      have hcv : (convert 74 9 (.slice (some ⟨g, 0, none⟩) k cap)).run Tryd.prog wr = .ok (.string ⟨(bgetL b.data.toList k).toArray⟩) wr := by
        have hl : ((List.range k).map fun i => gdig b.data.toList (i + 1)) = bgetL b.data.toList k := by unfold bgetL; rw [HP.out]
        have hlen := bgetL_length b.data.toList k
        have h := run_convert_bytes_back (P := Tryd.prog) wr 74 9 5 ⟨g, 0, none⟩ cap (bgetL b.data.toList k) Tryd.underlying74 Tryd.underlying5 Tryd.underlying9 (by
          intro i hi
          rw [hl] at hown
          have hc := hown.cellAt i (by omega)
          rw [show (⟨g, 0, none⟩ : Addr).add i = ⟨g, i, none⟩ from by rw [Addr.add_lit, Nat.zero_add], hc]
          simp [xb, hi])
        rw [hlen] at h
        exact h
      clear hown hall HO hb1
      have hend : ¬ (((k + 1 : Nat) : Int) < (k : Int) + 1) := by omega
      generalize hpp : k + 1 = p at *
      go_wp2
      go_ret3
      exact ⟨by rw [HRS.out]; rfl, hb'⟩

theorem bget_any (b : ByteArray) (z : Int) (w : World) :
    Calls Tryd.prog 38 #[.string b, .int .i64 z] w fun e w' => e = .returned (bgetV (bget b.data.toList z)) ∧ Below w.heap.size w w' := by
  have hbl : b.data.toList.length = b.size := by simp
  rcases bget_cases b.data.toList z with g | ⟨n, rfl, hn, g | ⟨hl, ⟨g1, g2⟩ | ⟨g1, _⟩⟩⟩
  · rw [bget_arg g]; exact bget_w_arg b z w g
  · rw [bget_cut hn g, hbl]; exact bget_w_cut b n w hn (by omega)
  · rw [bget_pad hn hl g1 g2]; exact bget_w_pad b n w hn (by omega) g1 g2
  · rcases Nat.mod_two_eq_zero_or_one n with h | h
    · exact bget_w_even b n w hn (by omega) h
    · exact bget_w_odd b n w hn (by omega) h (g1 h)

end Go.Proofs.YtlkpiapmdflahaaDoor

/-
  What the document's Put answers: for every text, in every world.
-/
namespace Go.Proofs.YtlkpiapmdflahaaDoor
open Go.RowKit


theorem xb_of (n : Nat) (h : n < 256) : xb (UInt8.ofNat n) = .int .u8 (n : Int) := by
  unfold xb; rw [UInt8.toNat_ofNat', Nat.mod_eq_of_lt h]


end Go.Proofs.YtlkpiapmdflahaaDoor

/-
  What the document's Get answers: for every text and every count, in every world.
-/
namespace Go.Proofs.YtlkpiapmdflahaaDoor
open Go.RowKit

theorem brefGet_arg (b : ByteArray) (z : Int) (w : World) (h : z < 0 ∨ 999 < z) :
    Calls Tryd.prog 22 #[.string b, .int .i64 z] w fun e w' => e = .returned (bgetV ([], 1, 0)) ∧ Below w.heap.size w w' := by
  by_cases h0 : z < 0
  · have t1 : decide (z < 0) = true := by simpa using h0
    clear h
    go_enter Tryd.func22, Tryd.ntmps22
    go_wp2
    go_ret3
    exact ⟨rfl, Below.refl _ _⟩
  · have t1 : decide (z < 0) = false := by simpa using h0
    have t2 : decide (999 < z) = true := by simp; omega
    clear h
    go_enter Tryd.func22, Tryd.ntmps22
    go_wp2
    go_ret3
    exact ⟨rfl, Below.refl _ _⟩

theorem brefGet_cut (b : ByteArray) (n : Nat) (w : World) (h : n ≤ 999) (h1 : b.size < (n + 1) / 2) :
    Calls Tryd.prog 22 #[.string b, .int .i64 (n : Int)] w fun e w' => e = .returned (bgetV ([], 2, b.size)) ∧ Below w.heap.size w w' := by
  have t1 : decide ((n : Int) < 0) = false := by simp
  have t2 : decide ((999 : Int) < (n : Int)) = false := by simp; omega
  have t3 : (b.size : Int) < ((n : Int) + 1) / 2 := by omega
  go_enter Tryd.func22, Tryd.ntmps22
  go_wp2
  go_ret3
  exact ⟨rfl, Below.refl _ _⟩

/-- 'string([]byte{c})' in the world that the literal leaves. -/
theorem conv_dig (q : Nat) (hq : q < 16) (w : World) :
    (convert 74 9 (.slice (some ⟨w.heap.size, 0, none⟩) 1 1)).run Tryd.prog (w.alloc (.cells #[.int .u8 (48 + (q : Int))] 5)) = .ok (.string ⟨#[UInt8.ofNat (48 + q)]⟩) (w.alloc (.cells #[.int .u8 (48 + (q : Int))] 5)) := by
  have h := run_convert_bytes_back (P := Tryd.prog) (w.alloc (.cells #[.int .u8 (48 + (q : Int))] 5)) 74 9 5 ⟨w.heap.size, 0, none⟩ 1 [UInt8.ofNat (48 + q)] Tryd.underlying74 Tryd.underlying5 Tryd.underlying9 (by
    intro j hj
    have hj0 : j = 0 := by simpa using hj
    subst hj0
    have e : ((UInt8.ofNat (48 + q)).toNat : Int) = 48 + (q : Int) := by rw [UInt8.toNat_ofNat']; omega
    simp [Addr.add]
    omega)
  exact h

theorem toList_len (o : ByteArray) : o.toList.length = o.size := by rw [ByteArray.toList_eq]; simp

/-- What is got so far. -/
def gotL (l : List UInt8) (d i : Nat) : ByteArray := ⟨((List.range i).map fun t => gdig l (t + d)).toArray⟩
theorem gotL_size (l : List UInt8) (d i : Nat) : (gotL l d i).size = i := by show (((List.range i).map fun t => gdig l (t + d)).toArray).size = i; simp
theorem gotL_next (l : List UInt8) (d i q : Nat) (hq : hb l (i + d) = q) : gotL l d i ++ ⟨#[UInt8.ofNat (48 + q)]⟩ = gotL l d (i + 1) := by
  subst hq
  unfold gotL
  rw [ByteArray.mk_append_mk, List.range_succ, List.map_append]
  simp [gdig]
theorem gotL_end (l : List UInt8) (n : Nat) : gotL l (n % 2) n = ⟨(bgetL l n).toArray⟩ := rfl

/-- The round's relation; d: the halves that stand for no digit. -/
def RGRel (l : List UInt8) (n d : Nat) (w : World) (v i : Value) (wr : World) : Prop :=
  ∃ k : Nat, k ≤ n ∧ i = .int .i64 ((k + d : Nat) : Int) ∧ v = .string (gotL l d k) ∧ (∀ i, i < k → hb l (i + d) ≤ 9) ∧ (0 < k → d = 1 → hb l 0 = 0) ∧ Below w.heap.size w wr

set_option maxRecDepth 100000 in
set_option maxHeartbeats 3200000 in
theorem brefGet_in (b : ByteArray) (n : Nat) (w : World) (h : n ≤ 999) (h1 : (n + 1) / 2 ≤ b.size) :
    Calls Tryd.prog 22 #[.string b, .int .i64 (n : Int)] w fun e w' => e = .returned (bgetV (bget b.data.toList n)) ∧ Below w.heap.size w w' := by
  have hbl : b.data.toList.length = b.size := by simp
  have t1 : decide ((n : Int) < 0) = false := by simp
  have t2 : decide ((999 : Int) < (n : Int)) = false := by simp; omega
  have t3 : ¬ (b.size : Int) < ((n : Int) + 1) / 2 := by omega
  have H1 := Lib.hid h1
  clear h1
  obtain ⟨d, HD⟩ : ∃ d, Hid (n % 2 = d) := ⟨_, rfl⟩
  have hd1 : d ≤ 1 := by have := HD.out; omega
  have e1 : 2 * (((n : Int) + 1) / 2) = (n : Int) + (d : Int) := by have := HD.out; omega
  have e2 : (n : Int) + (d : Int) - (n : Int) = (d : Int) := by omega
  go_enter Tryd.func22, Tryd.ntmps22
  go_wp2
  go_loopw [8, 9] (RGRel b.data.toList n d w) (fun _ i _ => n + d - (intOf i).toNat)
  case atStart => exact ⟨0, Nat.zero_le _, by rw [Nat.zero_add], rfl, fun i hi => absurd hi (by omega), fun h => absurd h (by omega), Below.refl _ _⟩
  case round =>
    obtain ⟨k, hk, rfl, rfl, hall, hpad, hb'⟩ := hrel
    by_cases hlt : k < n
    · have hpb : (k + d) / 2 < b.size := by have := H1.out; have := HD.out; omega
      have hix := ix_str b ((k + d) / 2) hpb
      have hgb : b.data.toList.getD ((k + d) / 2) 0 = b[(k + d) / 2] := getD_in _ _ _ (by omega)
      have hhb : hb b.data.toList (k + d) = if (k + d) % 2 = 0 then b[(k + d) / 2].toNat / 16 else b[(k + d) / 2].toNat % 16 := by
        unfold hb; rw [hgb]
      have hh0 : (k + d) / 2 = 0 → hb b.data.toList 0 = b[(k + d) / 2].toNat / 16 := by
        intro h0
        unfold hb
        rw [if_pos (by omega), Nat.zero_div, ← hgb, h0]
      have HG := Lib.hid (gotL_next b.data.toList d k)
      have hgs := gotL_size b.data.toList d k
      have HGS := Lib.hid hgs
      have HPAD := Lib.hid hpad
      have HALL := Lib.hid hall
      have HF := Lib.hid (fun (hp : n % 2 = 1 → hb b.data.toList 0 = 0) (h9 : 9 < hb b.data.toList (k + n % 2)) => bget_form (l := b.data.toList) h (by rw [hbl]; exact H1.out) hp hlt h9 (by rw [HD.out]; exact hall))
      rw [HD.out] at HF
      have HH0 := Lib.hid hh0
      have HHB := Lib.hid hhb
      have hpp : k + d ≤ 1000 := by omega
      have hpn : ((k + d : Nat) : Int) < (n : Int) + (d : Int) := by omega
      clear hall hpad hgb hh0 hhb
      have hc := b[(k + d) / 2].toNat_lt
      rw [show (((k + d) / 2 : Nat) : Int) = ((k + d : Nat) : Int) / 2 from by omega] at hix
      have hadd : ∀ q (W : World), (Op.stringOp .add (gotL b.data.toList d k) ⟨#[UInt8.ofNat (48 + q)]⟩).run Tryd.prog W = .ok (.string (gotL b.data.toList d k ++ ⟨#[UInt8.ofNat (48 + q)]⟩)) W := by
        intro q W
        rw [run_string_add_sum W _ _ (by rw [hgs]; show k + 1 ≤ _; omega)]
      have HADD := Lib.hid hadd
      clear hadd
      generalize b[(k + d) / 2] = c at *
      generalize hgo : gotL b.data.toList d k = o at *
      rcases Nat.eq_or_lt_of_le hk with hkn | _
      · exact absurd hkn (by omega)
      by_cases hone : k + d = 1
      · have hpar : (k + d) % 2 = 1 := by omega
        have e1p : ((k + d : Nat) : Int) = 1 := by omega
        have hix0 : ∀ w, (Instr.index 9 (.string b) (.int .i64 0)).run Tryd.prog w = .ok (.int .u8 ((c.toNat : Nat) : Int)) w := by
          rw [show (0 : Int) = ((k + d : Nat) : Int) / 2 from by omega]; exact hix
        clear hix
        by_cases hd0 : d = 0
        · have hpadk : d = 1 → hb b.data.toList 0 = 0 := fun h2 => absurd h2 (by omega)
          have HPK := Lib.hid hpadk
          clear hpadk
          have hne : ¬ o.toList = [] := fun e => by have e2 := congrArg List.length e; rw [toList_len] at e2; have e3 : o.size = 0 := e2; omega
          have hk1 : k = 1 := by omega
          have HK1 := Lib.hid hk1
          clear hd0 hk1 hone
          have hQ : hb b.data.toList (k + d) = c.toNat % 16 := by rw [HHB.out, if_neg (by omega)]
          have HQ := Lib.hid hQ
          clear hQ
          have hq16 : c.toNat % 16 < 16 := by omega
          have hqe : (c.toNat : Int) % 16 = ((c.toNat % 16 : Nat) : Int) := by omega
          clear HHB hpar
          generalize c.toNat % 16 = q at HQ hq16 hqe
          by_cases h9 : 9 < q
          · have HR := Lib.hid (HF.out HPK.out (by rw [HQ.out]; exact h9))
            rw [show (k + d) / 2 = 0 from by omega] at HR
            clear HF
            rw [e1p] at hpn ⊢
            go_wp2
            go_ret3
            exact ⟨by rw [HR.out]; rfl, hb'⟩
          · have hsum : IntKind.u8.wrap (48 + (q : Int)) = 48 + (q : Int) := IntWalk.u8_in _ (by omega)
            have hcv := conv_dig q hq16 wr
            have hadd := HADD.out q
            have HG2 := Lib.hid (HG.out q HQ.out)
            have hbz := hb'.size
            clear HF HG HADD
            generalize UInt8.ofNat (48 + q) = x at hcv hadd HG2
            rw [e1p] at hpn ⊢
            go_wp2
            go_roundw
            case rel =>
              refine ⟨k + 1, by omega, by rw [show k + 1 + d = 2 from by omega]; go_num, by rw [HG2.out], fun i hi => ?_, fun _ h => HPK.out h, hb'.alloc hbz _⟩
              by_cases hik : i < k
              · exact HALL.out i hik
              · rw [show i = k from by omega, HQ.out]; omega
            case measure => simp [intOf]; omega
        · have ho : o = ⟨#[]⟩ := by rw [← hgo, show k = 0 from by omega]; rfl
          subst ho
          have hk0 : k = 0 := by omega
          have HK1 := Lib.hid hk0
          have HD1 : Hid (d = 1) := by unfold Hid; omega
          clear hd0 hk0 hone
          by_cases h00 : c.toNat / 16 = 0
          · have hpadk : d = 1 → hb b.data.toList 0 = 0 := fun _ => by rw [HH0.out (by omega)]; exact h00
            have HPK := Lib.hid hpadk
            clear hpadk
            have h00' : ((c.toNat : Int) / 16 != 0) = false := by simp; omega
            have h00'' : (c.toNat : Int) / 16 = 0 := by omega
            have hQ : hb b.data.toList (k + d) = c.toNat % 16 := by rw [HHB.out, if_neg (by omega)]
            have HQ := Lib.hid hQ
            clear hQ
            have hq16 : c.toNat % 16 < 16 := by omega
            have hqe : (c.toNat : Int) % 16 = ((c.toNat % 16 : Nat) : Int) := by omega
            clear HHB hpar
            generalize c.toNat % 16 = q at HQ hq16 hqe
            by_cases h9 : 9 < q
            · have HR := Lib.hid (HF.out HPK.out (by rw [HQ.out]; exact h9))
              rw [show (k + d) / 2 = 0 from by omega] at HR
              clear HF
              rw [e1p] at hpn ⊢
              go_wp2
              go_ret3
              exact ⟨by rw [HR.out]; rfl, hb'⟩
            · have hsum : IntKind.u8.wrap (48 + (q : Int)) = 48 + (q : Int) := IntWalk.u8_in _ (by omega)
              have hcv := conv_dig q hq16 wr
              have hadd := HADD.out q
              have HG2 := Lib.hid (HG.out q HQ.out)
              have hbz := hb'.size
              clear HF HG HADD
              generalize UInt8.ofNat (48 + q) = x at hcv hadd HG2
              rw [e1p] at hpn ⊢
              go_wp2
              go_roundw
              case rel =>
                refine ⟨k + 1, by omega, by rw [show k + 1 + d = 2 from by omega]; go_num, by rw [HG2.out], fun i hi => ?_, fun _ h => HPK.out h, hb'.alloc hbz _⟩
                by_cases hik : i < k
                · exact HALL.out i hik
                · rw [show i = k from by omega, HQ.out]; omega
              case measure => simp [intOf]; omega
          · have HR : Hid (bget b.data.toList n = ([], 4, 0)) := bget_pad h (by rw [hbl]; exact H1.out) (by have := HD.out; have := HD1.out; omega) (by rw [HH0.out (by omega)]; exact h00)
            have h00' : ((c.toNat : Int) / 16 != 0) = true := by rw [bne_iff_ne]; omega
            rw [e1p] at hpn ⊢
            clear HF HG HADD HHB
            go_wp2
            go_ret3
            exact ⟨by rw [HR.out]; rfl, hb'⟩
      · have hpadk : d = 1 → hb b.data.toList 0 = 0 := fun h2 => HPAD.out (by omega) h2
        have HPK := Lib.hid hpadk
        clear hpadk
        have hone' : ¬ ((k + d : Nat) : Int) = 1 := by omega
        rcases Nat.mod_two_eq_zero_or_one (k + d) with hpar | hpar
        · skip
          have hQ : hb b.data.toList (k + d) = c.toNat / 16 := by rw [HHB.out, if_pos hpar]
          have HQ := Lib.hid hQ
          clear hQ
          have hq16 : c.toNat / 16 < 16 := by omega
          have hqe : (c.toNat : Int) / 16 = ((c.toNat / 16 : Nat) : Int) := by omega
          have hpar' : ((k + d : Nat) : Int) % 2 = 0 := by omega
          clear HHB hpar
          generalize c.toNat / 16 = q at HQ hq16 hqe
          by_cases h9 : 9 < q
          · have HR := Lib.hid (HF.out HPK.out (by rw [HQ.out]; exact h9))
            clear HF
            generalize k + d = p at *
            go_wp2
            go_ret3
            exact ⟨by rw [HR.out]; rfl, hb'⟩
          · have hsum : IntKind.u8.wrap (48 + (q : Int)) = 48 + (q : Int) := IntWalk.u8_in _ (by omega)
            have hcv := conv_dig q hq16 wr
            have hadd := HADD.out q
            have HG2 := Lib.hid (HG.out q HQ.out)
            have hbz := hb'.size
            clear HF HG HADD
            generalize UInt8.ofNat (48 + q) = x at hcv hadd HG2
            generalize hpk : k + d = p at *
            have HPP := Lib.hid hpk
            clear hpk
            go_wp2
            go_roundw
            case rel =>
              have hpp := HPP.out
              refine ⟨k + 1, by omega, by rw [show k + 1 + d = p + 1 from by omega]; go_num, by rw [HG2.out], fun i hi => ?_, fun _ h => HPK.out h, hb'.alloc hbz _⟩
              by_cases hik : i < k
              · exact HALL.out i hik
              · rw [show i + d = p from by omega, HQ.out]; omega
            case measure => simp [intOf]; have := HPP.out; omega
        · skip
          have hQ : hb b.data.toList (k + d) = c.toNat % 16 := by rw [HHB.out, if_neg (by omega)]
          have HQ := Lib.hid hQ
          clear hQ
          have hq16 : c.toNat % 16 < 16 := by omega
          have hqe : (c.toNat : Int) % 16 = ((c.toNat % 16 : Nat) : Int) := by omega
          have hpar' : ((k + d : Nat) : Int) % 2 = 1 := by omega
          clear HHB hpar
          generalize c.toNat % 16 = q at HQ hq16 hqe
          by_cases h9 : 9 < q
          · have HR := Lib.hid (HF.out HPK.out (by rw [HQ.out]; exact h9))
            clear HF
            generalize k + d = p at *
            go_wp2
            go_ret3
            exact ⟨by rw [HR.out]; rfl, hb'⟩
          · have hsum : IntKind.u8.wrap (48 + (q : Int)) = 48 + (q : Int) := IntWalk.u8_in _ (by omega)
            have hcv := conv_dig q hq16 wr
            have hadd := HADD.out q
            have HG2 := Lib.hid (HG.out q HQ.out)
            have hbz := hb'.size
            clear HF HG HADD
            generalize UInt8.ofNat (48 + q) = x at hcv hadd HG2
            generalize hpk : k + d = p at *
            have HPP := Lib.hid hpk
            clear hpk
            go_wp2
            go_roundw
            case rel =>
              have hpp := HPP.out
              refine ⟨k + 1, by omega, by rw [show k + 1 + d = p + 1 from by omega]; go_num, by rw [HG2.out], fun i hi => ?_, fun _ h => HPK.out h, hb'.alloc hbz _⟩
              by_cases hik : i < k
              · exact HALL.out i hik
              · rw [show i + d = p from by omega, HQ.out]; omega
            case measure => simp [intOf]; have := HPP.out; omega
    · have hkn : k = n := by omega
      subst hkn
      have HRS : Hid (bget b.data.toList k = (bgetL b.data.toList k, 0, 0)) := bget_ok h (by rw [hbl]; exact H1.out) (by
        intro h2
        rcases Nat.eq_zero_or_pos k with h0 | h0
        · omega
        · exact hpad h0 (by rw [← HD.out]; exact h2)) (by rw [HD.out]; exact hall)
      have HE : Hid (gotL b.data.toList d k = ⟨(bgetL b.data.toList k).toArray⟩) := by
        unfold Hid; rw [← HD.out]; exact gotL_end _ _
      have hend : ¬ (((k + d : Nat) : Int) < (k : Int) + (d : Int)) := by omega
      clear hall hpad hlt
      generalize hpp : k + d = p at *
      generalize gotL b.data.toList d k = o at *
      go_wp2
      go_ret3
      exact ⟨by rw [HRS.out, HE.out]; rfl, hb'⟩

theorem brefGet_any (b : ByteArray) (z : Int) (w : World) :
    Calls Tryd.prog 22 #[.string b, .int .i64 z] w fun e w' => e = .returned (bgetV (bget b.data.toList z)) ∧ Below w.heap.size w w' := by
  have hbl : b.data.toList.length = b.size := by simp
  rcases bget_cases b.data.toList z with g | ⟨n, rfl, hn, g | ⟨hl, _⟩⟩
  · rw [bget_arg g]; exact brefGet_arg b z w g
  · rw [bget_cut hn g, hbl]; exact brefGet_cut b n w hn (by omega)
  · exact brefGet_in b n w hn (by omega)

end Go.Proofs.YtlkpiapmdflahaaDoor
