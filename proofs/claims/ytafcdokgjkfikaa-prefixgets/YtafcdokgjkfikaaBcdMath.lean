/-
  Plain facts on digits by halves of bytes (lists of bytes and numbers); nothing of the program.
-/
import Derived.Test.YtafcdokgjkfikaaDigMath
namespace Go.Proofs.Ytafcdokgjkfikaa

def dv (c : UInt8) : Nat := c.toNat - 48
theorem dv_lt {c : UInt8} (h : isD c = true) : dv c < 10 := by
  rw [isD_iff] at h; unfold dv; omega
theorem dv_of {c : UInt8} (h : isD c = true) : UInt8.ofNat (48 + dv c) = c := by
  rw [isD_iff] at h
  apply UInt8.toNat_inj.1
  rw [UInt8.toNat_ofNat']
  unfold dv
  omega

theorem getD_in (l : List UInt8) (i : Nat) (d : UInt8) (h : i < l.length) : l.getD i d = l[i] := by
  rw [List.getD_eq_getElem?_getD, List.getElem?_eq_getElem h]; rfl
theorem getD_out (l : List UInt8) (i : Nat) (d : UInt8) (h : l.length ≤ i) : l.getD i d = d := by
  rw [List.getD_eq_getElem?_getD, List.getElem?_eq_none h]; rfl

/-- The half at place i of digits, a nought ahead of an odd count. -/
def hvL (l : List UInt8) (i : Nat) : Nat := if i < l.length % 2 then 0 else dv (l.getD (i - l.length % 2) 48)
def pbyte (l : List UInt8) (t : Nat) : UInt8 := UInt8.ofNat (16 * hvL l (2 * t) + hvL l (2 * t + 1))
def packL (l : List UInt8) : List UInt8 := (List.range ((l.length + 1) / 2)).map (pbyte l)
theorem packL_length (l : List UInt8) : (packL l).length = (l.length + 1) / 2 := by simp [packL]
theorem packL_at (l : List UInt8) (t : Nat) (h : t < (packL l).length) : (packL l)[t] = pbyte l t := by simp [packL]

theorem allD_getD {l : List UInt8} (h : allD l = true) (i : Nat) : isD (l.getD i 48) = true := by
  unfold allD at h
  rw [List.all_eq_true] at h
  by_cases hi : i < l.length
  · rw [getD_in _ _ _ hi]; exact h _ (List.getElem_mem hi)
  · rw [getD_out _ _ _ (by omega)]; decide
theorem hvL_lt {l : List UInt8} (h : allD l = true) (i : Nat) : hvL l i < 10 := by
  unfold hvL
  split
  · omega
  · exact dv_lt (allD_getD h _)
theorem hvL_at (l : List UInt8) (k : Nat) (hk : k < l.length) : hvL l (k + l.length % 2) = dv l[k] := by
  unfold hvL
  rw [if_neg (by omega), Nat.add_sub_cancel, getD_in _ _ _ hk]
theorem hvL_pad (l : List UInt8) (i : Nat) (h : i < l.length % 2) : hvL l i = 0 := by unfold hvL; rw [if_pos h]

/-- The program's row: cell t, when j halves are laid. -/
def pcN (l : List UInt8) (j t : Nat) : Nat := if 2 * t + 1 < j then 16 * hvL l (2 * t) + hvL l (2 * t + 1) else if 2 * t < j then hvL l (2 * t) else 0
def pcL (l : List UInt8) (m j : Nat) : List UInt8 := (List.range m).map fun t => UInt8.ofNat (pcN l j t)
/-- The document's row. -/
def rcN (l : List UInt8) (j t : Nat) : Nat := if 2 * t + 1 < j then 16 * hvL l (2 * t) + hvL l (2 * t + 1) else 16 * hvL l (2 * t)
def rcL (l : List UInt8) (j : Nat) : List UInt8 := (List.range ((j + 1) / 2)).map fun t => UInt8.ofNat (rcN l j t)

theorem set_range {α : Type} (m i : Nat) (f g : Nat → α) (h : ∀ t, t < m → t ≠ i → g t = f t) : ((List.range m).map f).set i (g i) = (List.range m).map g := by
  apply List.ext_getElem
  · simp
  · intro t h1 h2
    simp only [List.length_set, List.length_map, List.length_range] at h1
    rw [List.getElem_set]
    split
    · rename_i e; subst e; simp
    · rename_i e; simp; exact (h t h1 (fun e' => e e'.symm)).symm

theorem pcL_start (l : List UInt8) (m : Nat) : pcL l m (l.length % 2) = List.replicate m 0 := by
  unfold pcL
  apply List.ext_getElem
  · simp
  · intro t h1 h2
    simp
    unfold pcN
    rw [if_neg (by omega)]
    split
    · rename_i h; rw [hvL_pad _ _ h]; rfl
    · rfl
theorem pcL_set (l : List UInt8) (m j : Nat) (n : Nat) (hn : pcN l (j + 1) (j / 2) = n) : (pcL l m j).set (j / 2) (UInt8.ofNat n) = pcL l m (j + 1) := by
  subst hn
  refine set_range m (j / 2) _ (fun t => UInt8.ofNat (pcN l (j + 1) t)) fun t _ ht => ?_
  congr 1
  unfold pcN
  by_cases h1 : 2 * t + 1 < j
  · rw [if_pos h1, if_pos (by omega)]
  · rw [if_neg h1, if_neg (by omega), if_neg (by omega), if_neg (by omega)]
theorem pcN_old (l : List UInt8) (j : Nat) : pcN l j (j / 2) = if j % 2 = 0 then 0 else hvL l (j - 1) := by
  unfold pcN
  rw [if_neg (by omega)]
  by_cases h : j % 2 = 0
  · rw [if_pos h, if_neg (by omega)]
  · rw [if_neg h, if_pos (by omega)]; congr 1; omega
theorem pcN_new (l : List UInt8) (j : Nat) : pcN l (j + 1) (j / 2) = 16 * pcN l j (j / 2) + hvL l j := by
  rw [pcN_old]
  unfold pcN
  by_cases h : j % 2 = 0
  · rw [if_pos h, if_neg (by omega), if_pos (by omega)]; simp; congr 1; omega
  · rw [if_neg h, if_pos (by omega)]; congr 3 <;> omega
theorem pcL_end (l : List UInt8) : pcL l ((l.length + 1) / 2) (l.length + l.length % 2) = packL l := by
  unfold pcL packL
  apply List.map_congr_left
  intro t ht
  rw [List.mem_range] at ht
  unfold pcN pbyte
  rw [if_pos (by omega)]

theorem rcL_length (l : List UInt8) (j : Nat) : (rcL l j).length = (j + 1) / 2 := by simp [rcL]
theorem rcL_zero (l : List UInt8) : rcL l 0 = [] := by simp [rcL]
theorem rcL_one (l : List UInt8) (h : l.length % 2 = 1) : rcL l 1 = [0] := by
  simp [rcL, rcN, hvL_pad l 0 (by omega)]
theorem rcL_even (l : List UInt8) (j : Nat) (h : j % 2 = 0) : rcL l (j + 1) = rcL l j ++ [UInt8.ofNat (16 * hvL l j)] := by
  unfold rcL
  rw [show (j + 1 + 1) / 2 = (j + 1) / 2 + 1 by omega, List.range_succ, List.map_append]
  congr 1
  · apply List.map_congr_left
    intro t ht
    rw [List.mem_range] at ht
    unfold rcN
    rw [if_pos (by omega), if_pos (by omega)]
  · simp only [List.map_cons, List.map_nil]
    unfold rcN
    rw [if_neg (by omega), show 2 * ((j + 1) / 2) = j by omega]
theorem rcL_odd (l : List UInt8) (j : Nat) (h : j % 2 = 1) : (rcL l j).set (j / 2) (UInt8.ofNat (rcN l j (j / 2) + hvL l j)) = rcL l (j + 1) := by
  have e : rcN l j (j / 2) + hvL l j = rcN l (j + 1) (j / 2) := by
    unfold rcN
    rw [if_neg (by omega), if_pos (by omega), show 2 * (j / 2) + 1 = j by omega]
  rw [e]
  unfold rcL
  rw [show (j + 1 + 1) / 2 = (j + 1) / 2 by omega]
  refine set_range _ (j / 2) _ (fun t => UInt8.ofNat (rcN l (j + 1) t)) fun t h1 ht => ?_
  congr 1
  unfold rcN
  by_cases h1 : 2 * t + 1 < j
  · rw [if_pos h1, if_pos (by omega)]
  · exfalso; omega
theorem rcN_odd (l : List UInt8) (j : Nat) (h : j % 2 = 1) : rcN l j (j / 2) = 16 * hvL l (j - 1) := by
  unfold rcN
  rw [if_neg (by omega), show 2 * (j / 2) = j - 1 by omega]
theorem rcL_end (l : List UInt8) : rcL l (l.length + l.length % 2) = packL l := by
  unfold rcL packL
  rw [show (l.length + l.length % 2 + 1) / 2 = (l.length + 1) / 2 by omega]
  apply List.map_congr_left
  intro t ht
  rw [List.mem_range] at ht
  unfold rcN pbyte
  rw [if_pos (by omega)]

/-- The half at place i of bytes. -/
def hb (l : List UInt8) (i : Nat) : Nat := if i % 2 = 0 then (l.getD (i / 2) 0).toNat / 16 else (l.getD (i / 2) 0).toNat % 16
theorem hb_lt (l : List UInt8) (i : Nat) : hb l i < 16 := by
  unfold hb
  have := (l.getD (i / 2) 0).toNat_lt
  split <;> omega
def gdig (l : List UInt8) (i : Nat) : UInt8 := UInt8.ofNat (48 + hb l i)
def bgetL (l : List UInt8) (n : Nat) : List UInt8 := (List.range n).map fun i => gdig l (i + n % 2)
theorem gdig_toNat (l : List UInt8) (i : Nat) : (gdig l i).toNat = 48 + hb l i := by
  have := hb_lt l i
  unfold gdig
  rw [UInt8.toNat_ofNat']
  omega
def bbad (l : List UInt8) (n : Nat) : Option Nat := (List.range n).find? fun i => decide (9 < hb l (i + n % 2))
/-- What is got: the digits, the error's number, its place. -/
def bget (l : List UInt8) (z : Int) : List UInt8 × Nat × Nat :=
  if z < 0 ∨ 999 < z then ([], 1, 0)
  else if l.length < (z.toNat + 1) / 2 then ([], 2, l.length)
  else if z.toNat % 2 = 1 ∧ hb l 0 ≠ 0 then ([], 4, 0)
  else match bbad l z.toNat with
    | some i => ([], 3, (i + z.toNat % 2) / 2)
    | none => (bgetL l z.toNat, 0, 0)
theorem bget_arg {l : List UInt8} {z : Int} (h : z < 0 ∨ 999 < z) : bget l z = ([], 1, 0) := by unfold bget; rw [if_pos h]
theorem bget_cut {l : List UInt8} {n : Nat} (h : n ≤ 999) (h' : l.length < (n + 1) / 2) : bget l n = ([], 2, l.length) := by
  unfold bget; rw [if_neg (by omega), Int.toNat_natCast, if_pos h']
theorem bget_pad {l : List UInt8} {n : Nat} (h : n ≤ 999) (h' : (n + 1) / 2 ≤ l.length) (h1 : n % 2 = 1) (h2 : hb l 0 ≠ 0) : bget l n = ([], 4, 0) := by
  unfold bget; rw [if_neg (by omega), Int.toNat_natCast, if_neg (by omega), if_pos ⟨h1, h2⟩]
theorem bget_form {l : List UInt8} {n k : Nat} (h : n ≤ 999) (h' : (n + 1) / 2 ≤ l.length) (h1 : n % 2 = 1 → hb l 0 = 0) (hk : k < n) (hb1 : 9 < hb l (k + n % 2)) (hb2 : ∀ i, i < k → hb l (i + n % 2) ≤ 9) :
    bget l n = ([], 3, (k + n % 2) / 2) := by
  have hf : bbad l n = some k := by
    unfold bbad
    rw [List.find?_range_eq_some]
    exact ⟨by simpa using hb1, by simpa using hk, fun j hj => by have := hb2 j hj; simpa using this⟩
  unfold bget
  rw [if_neg (by omega), Int.toNat_natCast, if_neg (by omega), if_neg (fun h => h.2 (h1 h.1)), hf]
theorem bget_ok {l : List UInt8} {n : Nat} (h : n ≤ 999) (h' : (n + 1) / 2 ≤ l.length) (h1 : n % 2 = 1 → hb l 0 = 0) (hb2 : ∀ i, i < n → hb l (i + n % 2) ≤ 9) : bget l n = (bgetL l n, 0, 0) := by
  have hf : bbad l n = none := by
    unfold bbad
    rw [List.find?_eq_none]
    intro i hi
    rw [List.mem_range] at hi
    have := hb2 i hi
    simpa using this
  unfold bget
  rw [if_neg (by omega), Int.toNat_natCast, if_neg (by omega), if_neg (fun h => h.2 (h1 h.1)), hf]
/-- The ways that a get may go. -/
theorem bget_cases (l : List UInt8) (z : Int) :
    (z < 0 ∨ 999 < z) ∨ ∃ n : Nat, z = n ∧ n ≤ 999 ∧ (l.length < (n + 1) / 2 ∨ (n + 1) / 2 ≤ l.length ∧ ((n % 2 = 1 ∧ hb l 0 ≠ 0) ∨ (n % 2 = 1 → hb l 0 = 0) ∧
      ((∃ k, k < n ∧ 9 < hb l (k + n % 2) ∧ ∀ i, i < k → hb l (i + n % 2) ≤ 9) ∨ ∀ i, i < n → hb l (i + n % 2) ≤ 9))) := by
  by_cases h : z < 0 ∨ 999 < z
  · exact .inl h
  · right
    obtain ⟨n, rfl⟩ := Int.eq_ofNat_of_zero_le (show 0 ≤ z by omega)
    refine ⟨n, rfl, by omega, ?_⟩
    by_cases h1 : l.length < (n + 1) / 2
    · exact .inl h1
    · refine .inr ⟨by omega, ?_⟩
      by_cases h2 : n % 2 = 1 ∧ hb l 0 ≠ 0
      · exact .inl h2
      · refine .inr ⟨fun h => by by_cases h0 : hb l 0 = 0; exact h0; exact absurd ⟨h, h0⟩ h2, ?_⟩
        cases hf : bbad l n with
        | none =>
          right
          intro i hi
          unfold bbad at hf
          rw [List.find?_eq_none] at hf
          have := hf i (List.mem_range.2 hi)
          simpa using this
        | some k =>
          left
          unfold bbad at hf
          rw [List.find?_range_eq_some] at hf
          obtain ⟨g1, g2, g3⟩ := hf
          exact ⟨k, by simpa using g2, by simpa using g1, fun i hi => by have := g3 i hi; simpa using this⟩
theorem bget_zero {l : List UInt8} {z : Int} (h : (bget l z).2.1 = 0) : ∃ n : Nat, z = n ∧ n ≤ 999 ∧ (n + 1) / 2 ≤ l.length ∧ (n % 2 = 1 → hb l 0 = 0) ∧ ∀ i, i < n → hb l (i + n % 2) ≤ 9 := by
  rcases bget_cases l z with g | ⟨n, rfl, hn, g | ⟨hl, ⟨g1, g2⟩ | ⟨g1, ⟨k, hk, hb1, hb2⟩ | g2⟩⟩⟩
  · rw [bget_arg g] at h; cases h
  · rw [bget_cut hn g] at h; cases h
  · rw [bget_pad hn hl g1 g2] at h; cases h
  · rw [bget_form hn hl g1 hk hb1 hb2] at h; cases h
  · exact ⟨n, rfl, hn, hl, g1, g2⟩
theorem bget_empty {l : List UInt8} {z : Int} (h : (bget l z).2.1 ≠ 0) : (bget l z).1 = [] := by
  rcases bget_cases l z with g | ⟨n, rfl, hn, g | ⟨hl, ⟨g1, g2⟩ | ⟨g1, ⟨k, hk, hb1, hb2⟩ | g2⟩⟩⟩
  · rw [bget_arg g]
  · rw [bget_cut hn g]
  · rw [bget_pad hn hl g1 g2]
  · rw [bget_form hn hl g1 hk hb1 hb2]
  · rw [bget_ok hn hl g1 g2] at h; exact absurd rfl h

/-- What is packed, halved. -/
theorem hb_packL {l : List UInt8} (hd : allD l = true) (more : List UInt8) (i : Nat) (hi : i < l.length + l.length % 2) : hb (packL l ++ more) i = hvL l i := by
  have h1 := hvL_lt hd (2 * (i / 2))
  have h2 := hvL_lt hd (2 * (i / 2) + 1)
  have hx : (packL l ++ more).getD (i / 2) 0 = pbyte l (i / 2) := by
    have hlt : i / 2 < (packL l).length := by rw [packL_length]; omega
    rw [List.getD_eq_getElem?_getD, List.getElem?_append_left hlt]
    unfold packL at hlt ⊢
    rw [List.getElem?_eq_getElem hlt]
    simp
  have hv : (pbyte l (i / 2)).toNat = 16 * hvL l (2 * (i / 2)) + hvL l (2 * (i / 2) + 1) := by
    unfold pbyte; rw [UInt8.toNat_ofNat']; omega
  unfold hb
  rw [hx, hv]
  by_cases h : i % 2 = 0
  · rw [if_pos h]
    rw [show 2 * (i / 2) = i by omega] at *
    omega
  · rw [if_neg h]
    rw [show 2 * (i / 2) + 1 = i by omega] at *
    omega
theorem bget_packL {l : List UInt8} (hd : allD l = true) (hl : l.length ≤ 999) (more : List UInt8) : bget (packL l ++ more) l.length = (l, 0, 0) := by
  have hh : ∀ i, i < l.length → hb (packL l ++ more) (i + l.length % 2) = dv (l.getD i 48) := fun i hi => by
    rw [hb_packL hd more _ (by omega), hvL_at l i hi, getD_in _ _ _ hi]
  rw [bget_ok hl (by rw [List.length_append, packL_length]; omega) (fun h => by rw [hb_packL hd more 0 (by omega), hvL_pad _ _ (by omega)]) (fun i hi => by
    rw [hh i hi]; have := dv_lt (allD_getD hd i); omega)]
  congr 1
  unfold bgetL
  apply List.ext_getElem
  · simp
  · intro i h1 h2
    simp
    unfold gdig
    rw [hh i h2, dv_of (allD_getD hd i), getD_in _ _ _ h2]

/-- What is got, packed. -/
theorem bgetL_length (l : List UInt8) (n : Nat) : (bgetL l n).length = n := by simp [bgetL]
theorem bgetL_at (l : List UInt8) (n t : Nat) (h : t < (bgetL l n).length) : (bgetL l n)[t] = gdig l (t + n % 2) := by simp [bgetL]
theorem bgetL_all {l : List UInt8} {n : Nat} (h : ∀ i, i < n → hb l (i + n % 2) ≤ 9) : allD (bgetL l n) = true := by
  unfold allD bgetL
  rw [List.all_eq_true]
  intro c hc
  rw [List.mem_map] at hc
  obtain ⟨i, hi, rfl⟩ := hc
  rw [List.mem_range] at hi
  have := h i hi
  rw [isD_iff, gdig_toNat]
  omega
theorem hvL_bgetL {l : List UInt8} {n : Nat} (h1 : n % 2 = 1 → hb l 0 = 0) (i : Nat) (hi : i < n + n % 2) : hvL (bgetL l n) i = hb l i := by
  by_cases h : i < n % 2
  · rw [hvL_pad _ _ (by rw [bgetL_length]; exact h), show i = 0 by omega, h1 (by omega)]
  · have e : i = (i - n % 2) + n % 2 := by omega
    have hk : i - n % 2 < (bgetL l n).length := by rw [bgetL_length]; omega
    have g := hvL_at (bgetL l n) (i - n % 2) hk
    rw [bgetL_length, ← e] at g
    rw [g]
    rw [bgetL_at]
    unfold dv
    rw [gdig_toNat, ← e]
    omega
theorem packL_bgetL {l : List UInt8} {n : Nat} (hl : (n + 1) / 2 ≤ l.length) (h1 : n % 2 = 1 → hb l 0 = 0) : packL (bgetL l n) = l.take ((n + 1) / 2) := by
  apply List.ext_getElem
  · rw [packL_length, bgetL_length, List.length_take]; omega
  · intro t g1 g2
    rw [packL_length, bgetL_length] at g1
    have a1 := hvL_bgetL h1 (2 * t) (by omega)
    have a2 := hvL_bgetL h1 (2 * t + 1) (by omega)
    rw [packL_at, List.getElem_take]
    unfold pbyte
    rw [a1, a2]
    unfold hb
    rw [if_pos (by omega), if_neg (by omega), show 2 * t / 2 = t by omega, show (2 * t + 1) / 2 = t by omega, getD_in _ _ _ (show t < l.length by omega)]
    apply UInt8.toNat_inj.1
    rw [UInt8.toNat_ofNat']
    have := l[t].toNat_lt
    omega

/-- Numbers of lists, to a base. -/
def valN (B : Nat) (l : List Nat) : Nat := l.foldl (fun n x => B * n + x) 0
theorem valN_snoc (B : Nat) (l : List Nat) (x : Nat) : valN B (l ++ [x]) = B * valN B l + x := by simp [valN, List.foldl_append]
theorem valN_from (B : Nat) (l : List Nat) (n : Nat) : l.foldl (fun n x => B * n + x) n = n * B ^ l.length + valN B l := by
  unfold valN
  induction l generalizing n with
  | nil => simp
  | cons x l ih =>
    rw [List.foldl_cons, ih, List.foldl_cons, ih (B * 0 + x), List.length_cons, Nat.pow_succ]
    rw [Nat.mul_zero, Nat.zero_add, Nat.add_mul, Nat.add_assoc]
    congr 1
    rw [Nat.mul_comm B n, Nat.mul_assoc, Nat.mul_comm B]
theorem valN_cons (B : Nat) (l : List Nat) (x : Nat) : valN B (x :: l) = x * B ^ l.length + valN B l := by
  rw [valN, List.foldl_cons, valN_from, Nat.mul_zero, Nat.zero_add]
theorem valN_lt (B : Nat) (l : List Nat) (h : ∀ x ∈ l, x < B) : valN B l < B ^ l.length := by
  induction l with
  | nil => simp [valN]
  | cons x l ih =>
    have h1 := h x (List.mem_cons_self ..)
    have h2 := ih fun y hy => h y (List.mem_cons_of_mem _ hy)
    rw [valN_cons, List.length_cons, Nat.pow_succ]
    have : (x + 1) * B ^ l.length ≤ B * B ^ l.length := Nat.mul_le_mul_right _ h1
    rw [Nat.add_mul, Nat.one_mul] at this
    rw [Nat.mul_comm (B ^ l.length) B]
    omega

theorem val_pack (l : List UInt8) (hd : allD l = true) : ∀ m, valN 256 ((List.range m).map fun t => (pbyte l t).toNat) = valN 16 ((List.range (2 * m)).map (hvL l)) := by
  intro m
  induction m with
  | zero => rfl
  | succ m ih =>
    have h1 := hvL_lt hd (2 * m)
    have h2 := hvL_lt hd (2 * m + 1)
    have hv : (pbyte l m).toNat = 16 * hvL l (2 * m) + hvL l (2 * m + 1) := by unfold pbyte; rw [UInt8.toNat_ofNat']; omega
    rw [List.range_succ, List.map_append, List.map_cons, List.map_nil, valN_snoc, ih, show 2 * (m + 1) = 2 * m + 1 + 1 by omega, List.range_succ, List.map_append, List.map_cons, List.map_nil, valN_snoc, List.range_succ, List.map_append, List.map_cons, List.map_nil, valN_snoc, hv]
    omega
theorem val_halves (l : List UInt8) : ∀ k, k ≤ l.length → valN 16 ((List.range (l.length % 2 + k)).map (hvL l)) = valN 16 ((l.take k).map dv) := by
  intro k
  induction k with
  | zero =>
    intro _
    rcases Nat.mod_two_eq_zero_or_one l.length with h | h
    · rw [h]; rfl
    · rw [h]
      have := hvL_pad l 0 (by omega)
      simp [valN, this]
  | succ k ih =>
    intro hk
    rw [← Nat.add_assoc, List.range_succ, List.map_append, List.map_cons, List.map_nil, valN_snoc, ih (by omega), List.take_succ_eq_append_getElem (by omega), List.map_append, List.map_cons, List.map_nil, valN_snoc, Nat.add_comm (l.length % 2) k, hvL_at l k (by omega)]
theorem val_packL (l : List UInt8) (hd : allD l = true) : valN 256 ((packL l).map UInt8.toNat) = valN 16 (l.map dv) := by
  have h := val_pack l hd ((l.length + 1) / 2)
  rw [show 2 * ((l.length + 1) / 2) = l.length % 2 + l.length by omega, val_halves l l.length (Nat.le_refl _), List.take_length] at h
  rw [← h]
  unfold packL
  rw [List.map_map]
  rfl

end Go.Proofs.Ytafcdokgjkfikaa
