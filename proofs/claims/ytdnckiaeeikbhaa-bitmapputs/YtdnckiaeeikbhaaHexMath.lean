/-
  Plain facts on digits of sixteen (lists of bytes and numbers); nothing of the program.
-/
namespace Go.Proofs.Ytdnckiaeeikbhaa

def isX (c : UInt8) : Bool := (decide (48 ≤ c.toNat) && decide (c.toNat ≤ 57)) || (decide (65 ≤ c.toNat) && decide (c.toNat ≤ 70))
def xv (c : UInt8) : Nat := if c.toNat ≤ 57 then c.toNat - 48 else c.toNat - 55
def xw (c : UInt8) : Int := if isX c = true then (xv c : Int) else 0
def xW (c : UInt8) : Int := if isX c = true then (xv c : Int) else -1
def xd (n : Nat) : UInt8 := if n < 10 then UInt8.ofNat (48 + n) else UInt8.ofNat (55 + n)
def hputL (l : List UInt8) : List UInt8 := l.flatMap fun c => [xd (c.toNat / 16), xd (c.toNat % 16)]
def hgetL : List UInt8 → List UInt8
  | a :: b :: t => UInt8.ofNat (16 * xv a + xv b) :: hgetL t
  | _ => []
def hbad (l : List UInt8) : Nat := l.findIdx fun c => !isX c
def hgetB (l : List UInt8) : Bool := l.all isX && decide (l.length % 2 = 0)
def hgetS (l : List UInt8) : ByteArray := if hgetB l = true then ⟨(hgetL l).toArray⟩ else ⟨#[]⟩
def hgetI (l : List UInt8) : Int := if hgetB l = true then 0 else (hbad l : Int)

theorem isX_iff (c : UInt8) : isX c = true ↔ (48 ≤ c.toNat ∧ c.toNat ≤ 57) ∨ (65 ≤ c.toNat ∧ c.toNat ≤ 70) := by
  unfold isX; simp
theorem isX_false (c : UInt8) : isX c = false ↔ c.toNat < 48 ∨ (57 < c.toNat ∧ c.toNat < 65) ∨ 70 < c.toNat := by
  have h := isX_iff c
  cases g : isX c
  · simp only [g, Bool.false_eq_true, false_iff] at h
    constructor
    · intro _; omega
    · intro _; rfl
  · have := h.1 g
    constructor
    · intro h; cases h
    · intro h; omega
theorem xw_no {c : UInt8} (h : isX c = false) : xw c = 0 := by simp [xw, h]
theorem xW_no {c : UInt8} (h : isX c = false) : xW c = -1 := by simp [xW, h]
theorem xw_yes {c : UInt8} (h : isX c = true) : xw c = xv c := by simp [xw, h]
theorem xW_yes {c : UInt8} (h : isX c = true) : xW c = xv c := by simp [xW, h]
theorem xv_lt {c : UInt8} (h : isX c = true) : xv c < 16 := by
  rw [isX_iff] at h
  unfold xv
  split <;> omega
theorem xd_toNat (n : Nat) (h : n < 16) : (xd n).toNat = if n < 10 then 48 + n else 55 + n := by
  unfold xd
  split
  · rw [UInt8.toNat_ofNat']; omega
  · rw [UInt8.toNat_ofNat']; omega
theorem xd_isX (n : Nat) (h : n < 16) : isX (xd n) = true := by
  rw [isX_iff, xd_toNat n h]
  split <;> omega
theorem xv_xd (n : Nat) (h : n < 16) : xv (xd n) = n := by
  unfold xv
  rw [xd_toNat n h]
  by_cases g : n < 10
  · simp only [g, if_true]; split <;> omega
  · simp only [g, if_false]; split <;> omega
theorem xd_xv {c : UInt8} (h : isX c = true) : xd (xv c) = c := by
  have hv := xv_lt h
  apply UInt8.toNat_inj.1
  rw [xd_toNat _ hv]
  rw [isX_iff] at h
  unfold xv
  split <;> split <;> omega
theorem xd_inj {c : UInt8} (n : Nat) (h : n < 16) (e : xd n = c) : isX c = true ∧ xv c = n := by
  subst e
  exact ⟨xd_isX n h, xv_xd n h⟩

theorem hputL_length (l : List UInt8) : (hputL l).length = 2 * l.length := by
  induction l with
  | nil => rfl
  | cons c t ih => simp [hputL] at *; omega
theorem hputL_append (a b : List UInt8) : hputL (a ++ b) = hputL a ++ hputL b := by
  simp [hputL]
theorem hputL_snoc (a : List UInt8) (c : UInt8) : hputL (a ++ [c]) = hputL a ++ [xd (c.toNat / 16), xd (c.toNat % 16)] := by
  simp [hputL]
theorem hputL_all (l : List UInt8) : (hputL l).all isX = true := by
  induction l with
  | nil => rfl
  | cons c t ih =>
    have h1 := xd_isX (c.toNat / 16) (by have := c.toNat_lt; omega)
    have h2 := xd_isX (c.toNat % 16) (by omega)
    simp only [hputL, List.flatMap_cons, List.cons_append, List.nil_append, List.all_cons, h1, h2, Bool.true_and] at *
    exact ih
theorem hgetL_hputL (l : List UInt8) : hgetL (hputL l) = l := by
  induction l with
  | nil => rfl
  | cons c t ih =>
    have h1 := xv_xd (c.toNat / 16) (by have := c.toNat_lt; omega)
    have h2 := xv_xd (c.toNat % 16) (by omega)
    simp only [hputL, List.flatMap_cons, List.cons_append, List.nil_append, hgetL] at *
    rw [ih, h1, h2, show 16 * (c.toNat / 16) + c.toNat % 16 = c.toNat by omega]
    simp
theorem hgetB_hputL (l : List UInt8) : hgetB (hputL l) = true := by
  simp [hgetB, hputL_all, hputL_length]
theorem hputL_hgetL : ∀ (l : List UInt8), l.all isX = true → l.length % 2 = 0 → hputL (hgetL l) = l
  | [], _, _ => rfl
  | [_], _, h => by simp at h
  | a :: b :: t, h, h' => by
    simp only [List.all_cons, Bool.and_eq_true] at h
    have ha := xv_lt h.1
    have hb := xv_lt h.2.1
    have ih := hputL_hgetL t h.2.2 (by simp at h'; omega)
    have e : (UInt8.ofNat (16 * xv a + xv b)).toNat = 16 * xv a + xv b := by
      rw [UInt8.toNat_ofNat']; omega
    simp only [hputL, hgetL, List.flatMap_cons, List.cons_append, List.nil_append] at *
    rw [ih, e, show (16 * xv a + xv b) / 16 = xv a by omega, show (16 * xv a + xv b) % 16 = xv b by omega, xd_xv h.1, xd_xv h.2.1]
theorem hgetL_snoc2 : ∀ (l : List UInt8) (a b : UInt8), l.length % 2 = 0 → hgetL (l ++ [a, b]) = hgetL l ++ [UInt8.ofNat (16 * xv a + xv b)]
  | [], _, _, _ => rfl
  | [_], _, _, h => by simp at h
  | x :: y :: t, a, b, h => by
    have ih := hgetL_snoc2 t a b (by simp at h; omega)
    simp only [List.cons_append, hgetL]
    rw [ih]
theorem hgetL_length : ∀ (l : List UInt8), (hgetL l).length = l.length / 2
  | [] => rfl
  | [_] => by simp [hgetL]
  | x :: y :: t => by
    have ih := hgetL_length t
    simp only [hgetL, List.length_cons]
    rw [ih]; omega

theorem hgetB_yes {l : List UInt8} (h : l.all isX = true) (h' : l.length % 2 = 0) : hgetB l = true := by simp [hgetB, h, h']
theorem hgetB_no {l : List UInt8} (h : l.all isX = false ∨ l.length % 2 = 1) : hgetB l = false := by
  rcases h with h | h
  · simp [hgetB, h]
  · simp [hgetB, show ¬ l.length % 2 = 0 by omega]
theorem hgetB_iff {l : List UInt8} (h : hgetB l = true) : l.all isX = true ∧ l.length % 2 = 0 := by
  simpa [hgetB] using h
theorem hgetS_yes {l : List UInt8} (h : hgetB l = true) : hgetS l = ⟨(hgetL l).toArray⟩ := by simp [hgetS, h]
theorem hgetS_no {l : List UInt8} (h : hgetB l = false) : hgetS l = ⟨#[]⟩ := by simp [hgetS, h]
theorem hgetI_yes {l : List UInt8} (h : hgetB l = true) : hgetI l = 0 := by simp [hgetI, h]
theorem hgetI_no {l : List UInt8} (h : hgetB l = false) : hgetI l = hbad l := by simp [hgetI, h]
theorem hbad_le (l : List UInt8) : hbad l ≤ l.length := List.findIdx_le_length
theorem hbad_all {l : List UInt8} (h : l.all isX = true) : hbad l = l.length := by
  unfold hbad
  rw [List.findIdx_eq_length]
  intro x hx
  have := List.all_eq_true.1 h x hx
  simp [this]
theorem hbad_some {l : List UInt8} (h : l.all isX = false) : hbad l < l.length := by
  unfold hbad
  rw [List.findIdx_lt_length]
  rw [List.all_eq_false] at h
  obtain ⟨x, hx, hb⟩ := h
  exact ⟨x, hx, by simpa using hb⟩
theorem hbad_at {l : List UInt8} {k : Nat} (hk : k < l.length) (ha : (l.take k).all isX = true) (hb : isX l[k] = false) : hbad l = k := by
  unfold hbad
  rw [List.findIdx_eq hk]
  refine ⟨by simp [hb], fun j hj => ?_⟩
  have := List.all_eq_true.1 ha l[j] (by rw [List.mem_take_iff_getElem]; exact ⟨j, by omega, rfl⟩)
  simp [this]

end Go.Proofs.Ytdnckiaeeikbhaa
