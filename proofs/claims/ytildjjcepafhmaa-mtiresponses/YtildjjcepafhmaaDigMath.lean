/-
  Plain facts on decimal digits (lists of bytes and numbers); nothing of the program.
-/
namespace Go.Proofs.Ytildjjcepafhmaa

def isD (c : UInt8) : Bool := decide (48 ≤ c.toNat) && decide (c.toNat ≤ 57)
def allD (l : List UInt8) : Bool := l.all isD
def dg (n : Nat) : UInt8 := UInt8.ofNat (48 + n % 10)
def putL : Nat → Nat → List UInt8
  | _, 0 => []
  | n, k + 1 => putL (n / 10) k ++ [dg n]
def numL (l : List UInt8) : Nat := l.foldl (fun n c => 10 * n + (c.toNat - 48)) 0

theorem dg_toNat (n : Nat) : (dg n).toNat = 48 + n % 10 := by
  unfold dg
  rw [UInt8.toNat_ofNat']
  omega
theorem isD_dg (n : Nat) : isD (dg n) = true := by
  have := dg_toNat n
  unfold isD
  simp
  omega
theorem isD_iff (c : UInt8) : isD c = true ↔ 48 ≤ c.toNat ∧ c.toNat ≤ 57 := by
  unfold isD; simp
theorem isD_false (c : UInt8) : isD c = false ↔ c.toNat < 48 ∨ 57 < c.toNat := by
  have := isD_iff c
  cases h : isD c
  · simp [h] at this
    constructor
    · intro _
      by_cases g : 48 ≤ c.toNat
      · exact Or.inr (this g)
      · exact Or.inl (by omega)
    · intro _; rfl
  · simp [h] at this
    constructor
    · intro h; cases h
    · intro h; omega

theorem putL_length (n k : Nat) : (putL n k).length = k := by
  induction k generalizing n with
  | zero => rfl
  | succ k ih => simp [putL, ih]
theorem putL_cons (n k : Nat) : putL n (k + 1) = dg (n / 10 ^ k) :: putL n k := by
  induction k generalizing n with
  | zero => simp [putL]
  | succ k ih =>
    rw [putL, ih (n / 10), putL]
    simp [Nat.div_div_eq_div_mul, Nat.pow_succ, Nat.mul_comm]
theorem putL_all (n k : Nat) : allD (putL n k) = true := by
  induction k generalizing n with
  | zero => rfl
  | succ k ih =>
    have := ih (n / 10)
    unfold allD at *
    simp [putL, List.all_append, this, isD_dg]
theorem numL_snoc (l : List UInt8) (c : UInt8) : numL (l ++ [c]) = 10 * numL l + (c.toNat - 48) := by
  simp [numL, List.foldl_append]
theorem numL_putL (n k : Nat) : numL (putL n k) = n % 10 ^ k := by
  induction k generalizing n with
  | zero => simp [putL, numL, Nat.mod_one]
  | succ k ih =>
    rw [putL, numL_snoc, ih, dg_toNat, Nat.pow_succ, Nat.mul_comm (10 ^ k) 10, Nat.mod_mul]
    omega
theorem allD_snoc (l : List UInt8) (c : UInt8) : allD (l ++ [c]) = (allD l && isD c) := by
  simp [allD]
theorem allD_take {l : List UInt8} (h : allD l = true) (k : Nat) : allD (l.take k) = true := by
  unfold allD at *
  rw [List.all_eq_true] at *
  exact fun x hx => h x (List.mem_of_mem_take hx)
theorem allD_drop {l : List UInt8} (h : allD l = true) (k : Nat) : allD (l.drop k) = true := by
  unfold allD at *
  rw [List.all_eq_true] at *
  exact fun x hx => h x (List.mem_of_mem_drop hx)
theorem dg_of (c : UInt8) (m : Nat) (h : isD c = true) : dg (10 * m + (c.toNat - 48)) = c := by
  rw [isD_iff] at h
  apply UInt8.toNat_inj.1
  rw [dg_toNat]
  omega
theorem rev_ind {P : List UInt8 → Prop} (h0 : P []) (h1 : ∀ l c, P l → P (l ++ [c])) (l : List UInt8) : P l := by
  rw [← List.reverse_reverse l]
  induction l.reverse with
  | nil => exact h0
  | cons c t ih => rw [List.reverse_cons]; exact h1 _ _ ih
theorem putL_numL (l : List UInt8) : allD l = true → putL (numL l) l.length = l := by
  refine rev_ind (P := fun l => allD l = true → putL (numL l) l.length = l) (fun _ => rfl) ?_ l
  intro l c ih h
  rw [allD_snoc, Bool.and_eq_true] at h
  have hc := (isD_iff c).1 h.2
  rw [numL_snoc, List.length_append, List.length_singleton, putL, dg_of c _ h.2]
  rw [show (10 * numL l + (c.toNat - 48)) / 10 = numL l from by omega, ih h.1]
theorem numL_lt (l : List UInt8) : allD l = true → numL l < 10 ^ l.length := by
  refine rev_ind (P := fun l => allD l = true → numL l < 10 ^ l.length) (fun _ => by simp [numL]) ?_ l
  intro l c ih h
  rw [allD_snoc, Bool.and_eq_true] at h
  have hc := (isD_iff c).1 h.2
  have := ih h.1
  rw [numL_snoc, List.length_append, List.length_singleton, Nat.pow_succ]
  omega

def putB (n w : Int) : Bool := decide (0 ≤ n) && decide (1 ≤ w) && decide (w ≤ 18) && decide (n < 10 ^ w.toNat)
def putS (n w : Int) : ByteArray := if putB n w = true then ⟨(putL n.toNat w.toNat).toArray⟩ else ⟨#[]⟩
theorem putB_mk {n w : Int} (h0 : 0 ≤ n) (h1 : 1 ≤ w) (h2 : w ≤ 18) (h3 : n.toNat / 10 ^ w.toNat = 0) : putB n w = true := by
  have h4 := (Nat.div_eq_zero_iff).1 h3
  have h5 : (0 : Nat) < 10 ^ w.toNat := Nat.pow_pos (by omega)
  have h6 : n < 10 ^ w.toNat := by
    have h7 : n.toNat < 10 ^ w.toNat := by omega
    have h8 : ((n.toNat : Nat) : Int) < ((10 ^ w.toNat : Nat) : Int) := Int.ofNat_lt.2 h7
    rw [Int.toNat_of_nonneg h0] at h8
    simpa using h8
  simp [putB, h0, h1, h2, h6]
theorem putB_no {n w : Int} (h : n < 0 ∨ w < 1 ∨ 18 < w ∨ (0 ≤ n ∧ 0 < n.toNat / 10 ^ w.toNat)) : putB n w = false := by
  rcases h with h | h | h | ⟨h0, h⟩
  · simp [putB, show ¬ 0 ≤ n by omega]
  · simp [putB, show ¬ 1 ≤ w by omega]
  · simp [putB, show ¬ w ≤ 18 by omega]
  · have h6 : ¬ n < 10 ^ w.toNat := by
      intro h6
      have h7 : ((n.toNat : Nat) : Int) < ((10 ^ w.toNat : Nat) : Int) := by
        rw [Int.toNat_of_nonneg h0]; simpa using h6
      have := Nat.div_eq_of_lt (Int.ofNat_lt.1 h7)
      omega
    simp [putB, h6]
theorem putS_yes {n w : Int} (h : putB n w = true) : putS n w = ⟨(putL n.toNat w.toNat).toArray⟩ := by simp [putS, h]
theorem putS_no {n w : Int} (h : putB n w = false) : putS n w = ⟨#[]⟩ := by simp [putS, h]

theorem pow18 (k : Nat) (h : k ≤ 18) : 10 ^ k ≤ 1000000000000000000 := by
  have := Nat.pow_le_pow_right (n := 10) (by omega) h
  simpa using this
theorem pow17 (k : Nat) (h : k ≤ 17) : 10 ^ k ≤ 100000000000000000 := by
  have := Nat.pow_le_pow_right (n := 10) (by omega) h
  simpa using this

end Go.Proofs.Ytildjjcepafhmaa
