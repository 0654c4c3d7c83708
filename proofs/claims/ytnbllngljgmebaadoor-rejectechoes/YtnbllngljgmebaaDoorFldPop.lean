/-
  Counting the one bits of a number of 64 bits by halves, quarters and bytes: plain arithmetic, no program.
-/
import Derived.Lib.BitFns
namespace Go.Proofs.YtnbllngljgmebaaDoor
open Go.Lib

def bm (f : Nat → Nat) : Nat → Nat → Nat
  | 0, _ => 0
  | k + 1, x => f (x % 256) + 256 * bm f k (x / 256)
def rep (c : Nat) : Nat → Nat
  | 0 => 0
  | k + 1 => c + 256 * rep c k

theorem and_byte (b r c s : Nat) (hb : b < 256) (hc : c < 256) : (b + 256 * r) &&& (c + 256 * s) = (b &&& c) + 256 * (r &&& s) := by
  have h1 : ((b + 256 * r) &&& (c + 256 * s)) % 2 ^ 8 = (b &&& c) := by
    rw [Nat.and_mod_two_pow, show (b + 256 * r) % 2 ^ 8 = b by omega, show (c + 256 * s) % 2 ^ 8 = c by omega]
  have h2 : ((b + 256 * r) &&& (c + 256 * s)) / 2 ^ 8 = (r &&& s) := by
    rw [Nat.and_div_two_pow, show (b + 256 * r) / 2 ^ 8 = r by omega, show (c + 256 * s) / 2 ^ 8 = s by omega]
  omega

theorem bm_lt {f : Nat → Nat} (hf : ∀ b, b < 256 → f b < 256) : ∀ k x, bm f k x < 256 ^ k
  | 0, _ => by simp [bm]
  | k + 1, x => by
    have h := bm_lt hf k (x / 256)
    have h2 := hf (x % 256) (by omega)
    simp only [bm, Nat.pow_succ]
    omega
theorem bm_bm {f g : Nat → Nat} (hf : ∀ b, b < 256 → f b < 256) : ∀ k x, bm g k (bm f k x) = bm (fun b => g (f b)) k x
  | 0, _ => rfl
  | k + 1, x => by
    have h2 := hf (x % 256) (by omega)
    simp only [bm]
    rw [show (f (x % 256) + 256 * bm f k (x / 256)) % 256 = f (x % 256) by omega, show (f (x % 256) + 256 * bm f k (x / 256)) / 256 = bm f k (x / 256) by omega, bm_bm hf k]

def q1 (b : Nat) : Nat := (b / 2 &&& 85) + (b &&& 85)
def q2 (b : Nat) : Nat := (b / 4 &&& 51) + (b &&& 51)
def q3 (b : Nat) : Nat := (b / 16 + b) &&& 15
theorem q1_lt : ∀ b, b < 256 → q1 b < 256 := by decide +kernel
theorem q2_lt : ∀ b, b < 256 → q2 b < 256 := by decide +kernel
theorem q12_nib : ∀ b, b < 256 → q2 (q1 b) / 16 ≤ 4 ∧ q2 (q1 b) % 16 ≤ 4 := by decide +kernel
theorem q123 : ∀ b, b < 256 → q3 (q2 (q1 b)) = popAux 8 b := by decide +kernel
theorem pop8_le : ∀ b, b < 256 → popAux 8 b ≤ 8 := by decide +kernel
theorem low1 : ∀ b, b < 256 → ∀ t, t < 2 → (b / 2 + 128 * t) &&& 85 = b / 2 &&& 85 := by decide +kernel
theorem low2 : ∀ b, b < 256 → ∀ t, t < 4 → (b / 4 + 64 * t) &&& 51 = b / 4 &&& 51 := by decide +kernel
theorem low3 : ∀ u, u < 5 → ∀ v, v < 5 → ∀ t, t < 5 → (u + 16 * t + (v + 16 * u)) &&& 15 = (u + (v + 16 * u)) &&& 15 := by decide +kernel

theorem step1 : ∀ k x, (x / 2 &&& rep 85 k) + (x &&& rep 85 k) = bm q1 k x
  | 0, x => by simp [rep, bm]
  | k + 1, x => by
    have ih := step1 k (x / 256)
    have e1 : x / 2 = (x % 256 / 2 + 128 * (x / 256 % 2)) + 256 * (x / 256 / 2) := by omega
    have e2 : x = x % 256 + 256 * (x / 256) := by omega
    have g1 : x / 2 &&& rep 85 (k + 1) = (x % 256 / 2 &&& 85) + 256 * (x / 256 / 2 &&& rep 85 k) := by
      rw [rep, e1, and_byte _ _ _ _ (by omega) (by omega), low1 (x % 256) (by omega) _ (by omega)]
    have g2 : x &&& rep 85 (k + 1) = (x % 256 &&& 85) + 256 * (x / 256 &&& rep 85 k) := by
      conv => lhs; rw [rep, e2]
      rw [and_byte _ _ _ _ (by omega) (by omega)]
    rw [g1, g2, bm, ← ih, q1]
    omega
theorem step2 : ∀ k x, (x / 4 &&& rep 51 k) + (x &&& rep 51 k) = bm q2 k x
  | 0, x => by simp [rep, bm]
  | k + 1, x => by
    have ih := step2 k (x / 256)
    have e1 : x / 4 = (x % 256 / 4 + 64 * (x / 256 % 4)) + 256 * (x / 256 / 4) := by omega
    have e2 : x = x % 256 + 256 * (x / 256) := by omega
    have g1 : x / 4 &&& rep 51 (k + 1) = (x % 256 / 4 &&& 51) + 256 * (x / 256 / 4 &&& rep 51 k) := by
      rw [rep, e1, and_byte _ _ _ _ (by omega) (by omega), low2 (x % 256) (by omega) _ (by omega)]
    have g2 : x &&& rep 51 (k + 1) = (x % 256 &&& 51) + 256 * (x / 256 &&& rep 51 k) := by
      conv => lhs; rw [rep, e2]
      rw [and_byte _ _ _ _ (by omega) (by omega)]
    rw [g1, g2, bm, ← ih, q2]
    omega
theorem step3 {g : Nat → Nat} (hg : ∀ b, b < 256 → g b / 16 ≤ 4 ∧ g b % 16 ≤ 4) : ∀ k y, (bm g k y / 16 + bm g k y) &&& rep 15 k = bm (fun b => q3 (g b)) k y
  | 0, y => by simp [rep, bm]
  | k + 1, y => by
    have ih := step3 hg k (y / 256)
    have hb := hg (y % 256) (by omega)
    have hr : bm g k (y / 256) % 16 ≤ 4 := by
      cases k with
      | zero => simp [bm]
      | succ k =>
        have := hg (y / 256 % 256) (by omega)
        simp only [bm]
        omega
    rw [bm, bm, rep]
    generalize hc : g (y % 256) = c at hb ⊢
    generalize bm g k (y / 256) = r at hr ih ⊢
    have e : (c + 256 * r) / 16 + (c + 256 * r) = (c / 16 + 16 * (r % 16) + (c % 16 + 16 * (c / 16))) + 256 * (r / 16 + r) := by omega
    rw [e, and_byte _ _ _ _ (by omega) (by omega), ih, low3 (c / 16) (by omega) (c % 16) (by omega) (r % 16) (by omega), q3, show c % 16 + 16 * (c / 16) = c by omega]

theorem popAux_add : ∀ (a b x : Nat), popAux (a + b) x = popAux a (x % 2 ^ a) + popAux b (x / 2 ^ a)
  | 0, b, x => by simp [popAux]
  | a + 1, b, x => by
    rw [show a + 1 + b = (a + b) + 1 by omega, popAux, popAux_add a b (x / 2), popAux]
    have e1 : x % 2 ^ (a + 1) % 2 = x % 2 := by rw [Nat.pow_succ]; exact Nat.mod_mod_of_dvd _ ⟨2 ^ a, by rw [Nat.mul_comm]⟩
    have e2 : x % 2 ^ (a + 1) / 2 = x / 2 % 2 ^ a := by rw [Nat.pow_succ, Nat.mul_comm, Nat.mod_mul_right_div_self]
    have e3 : x / 2 ^ (a + 1) = x / 2 / 2 ^ a := by rw [Nat.pow_succ, Nat.mul_comm, Nat.div_div_eq_div_mul]
    rw [e1, e2, e3]
    omega

theorem rep85 : rep 85 8 = 6148914691236517205 := by decide +kernel
theorem rep51 : rep 51 8 = 3689348814741910323 := by decide +kernel
theorem rep15 : rep 15 8 = 1085102592571150095 := by decide +kernel

/-- Three steps: each byte tells how many of its own bits are set. -/
def n1 (x : Nat) : Nat := (x / 2 &&& 6148914691236517205) + (x &&& 6148914691236517205)
def n2 (x : Nat) : Nat := (n1 x / 4 &&& 3689348814741910323) + (n1 x &&& 3689348814741910323)
def n3 (x : Nat) : Nat := (n2 x / 16 + n2 x) &&& 1085102592571150095
def n4 (x : Nat) : Nat := n3 x + n3 x / 256
def n5 (x : Nat) : Nat := n4 x + n4 x / 65536
def n6 (x : Nat) : Nat := n5 x + n5 x / 4294967296
theorem n1_le (x : Nat) : n1 x ≤ 12297829382473034410 := by
  unfold n1
  have h1 : (x / 2 &&& 6148914691236517205) ≤ 6148914691236517205 := Nat.and_le_right
  have h2 : (x &&& 6148914691236517205) ≤ 6148914691236517205 := Nat.and_le_right
  omega
theorem n2_le (x : Nat) : n2 x ≤ 7378697629483820646 := by
  unfold n2
  have h1 : (n1 x / 4 &&& 3689348814741910323) ≤ 3689348814741910323 := Nat.and_le_right
  have h2 : (n1 x &&& 3689348814741910323) ≤ 3689348814741910323 := Nat.and_le_right
  omega
theorem n3_le (x : Nat) : n3 x ≤ 1085102592571150095 := Nat.and_le_right

theorem n3_bytes (x : Nat) : n3 x = bm (fun b => q3 (q2 (q1 b))) 8 x := by
  have h1 : n1 x = bm q1 8 x := by rw [← step1, rep85]; rfl
  have h2 : n2 x = bm (fun b => q2 (q1 b)) 8 x := by
    rw [← bm_bm q1_lt, ← h1, ← step2, rep51]; rfl
  rw [← step3 q12_nib, ← h2, rep15]
  rfl

theorem n6_pop (x : Nat) (hx : x < 18446744073709551616) : n6 x % 128 = onesCount x ∧ n6 x < 9223372036854775808 := by
  have h3 : n3 x = popAux 8 (x % 256) + 256 * (popAux 8 (x / 256 % 256) + 256 * (popAux 8 (x / 256 / 256 % 256) + 256 * (popAux 8 (x / 256 / 256 / 256 % 256) + 256 * (popAux 8 (x / 256 / 256 / 256 / 256 % 256) + 256 * (popAux 8 (x / 256 / 256 / 256 / 256 / 256 % 256) + 256 * (popAux 8 (x / 256 / 256 / 256 / 256 / 256 / 256 % 256) + 256 * popAux 8 (x / 256 / 256 / 256 / 256 / 256 / 256 / 256 % 256))))))) := by
    rw [n3_bytes]
    simp only [bm]
    rw [q123 _ (by omega), q123 _ (by omega), q123 _ (by omega), q123 _ (by omega), q123 _ (by omega), q123 _ (by omega), q123 _ (by omega), q123 _ (by omega)]
    omega
  have hp : onesCount x = popAux 8 (x % 256) + (popAux 8 (x / 256 % 256) + (popAux 8 (x / 256 / 256 % 256) + (popAux 8 (x / 256 / 256 / 256 % 256) + (popAux 8 (x / 256 / 256 / 256 / 256 % 256) + (popAux 8 (x / 256 / 256 / 256 / 256 / 256 % 256) + (popAux 8 (x / 256 / 256 / 256 / 256 / 256 / 256 % 256) + popAux 8 (x / 256 / 256 / 256 / 256 / 256 / 256 / 256 % 256))))))) := by
    rw [onesCount, popAux_add 8 56, popAux_add 8 48, popAux_add 8 40, popAux_add 8 32, popAux_add 8 24, popAux_add 8 16, popAux_add 8 8]
    rw [show x / 256 / 256 / 256 / 256 / 256 / 256 / 256 % 256 = x / 256 / 256 / 256 / 256 / 256 / 256 / 256 by omega]
  have c0 := pop8_le (x % 256) (by omega)
  have c1 := pop8_le (x / 256 % 256) (by omega)
  have c2 := pop8_le (x / 256 / 256 % 256) (by omega)
  have c3 := pop8_le (x / 256 / 256 / 256 % 256) (by omega)
  have c4 := pop8_le (x / 256 / 256 / 256 / 256 % 256) (by omega)
  have c5 := pop8_le (x / 256 / 256 / 256 / 256 / 256 % 256) (by omega)
  have c6 := pop8_le (x / 256 / 256 / 256 / 256 / 256 / 256 % 256) (by omega)
  have c7 := pop8_le (x / 256 / 256 / 256 / 256 / 256 / 256 / 256 % 256) (by omega)
  rw [hp]
  clear hp
  unfold n6 n5 n4
  revert h3 c0 c1 c2 c3 c4 c5 c6 c7
  generalize n3 x = y
  generalize popAux 8 (x % 256) = d0
  generalize popAux 8 (x / 256 % 256) = d1
  generalize popAux 8 (x / 256 / 256 % 256) = d2
  generalize popAux 8 (x / 256 / 256 / 256 % 256) = d3
  generalize popAux 8 (x / 256 / 256 / 256 / 256 % 256) = d4
  generalize popAux 8 (x / 256 / 256 / 256 / 256 / 256 % 256) = d5
  generalize popAux 8 (x / 256 / 256 / 256 / 256 / 256 / 256 % 256) = d6
  generalize popAux 8 (x / 256 / 256 / 256 / 256 / 256 / 256 / 256 % 256) = d7
  intro h3 c0 c1 c2 c3 c4 c5 c6 c7
  have e4 : y + y / 256 = (d0 + d1) + 256 * ((d1 + d2) + 256 * ((d2 + d3) + 256 * ((d3 + d4) + 256 * ((d4 + d5) + 256 * ((d5 + d6) + 256 * ((d6 + d7) + 256 * d7)))))) := by omega
  rw [e4]
  have e5 : ∀ z, z = (d0 + d1) + 256 * ((d1 + d2) + 256 * ((d2 + d3) + 256 * ((d3 + d4) + 256 * ((d4 + d5) + 256 * ((d5 + d6) + 256 * ((d6 + d7) + 256 * d7)))))) → z + z / 65536 = (d0 + d1 + d2 + d3) + 256 * ((d1 + d2 + d3 + d4) + 256 * ((d2 + d3 + d4 + d5) + 256 * ((d3 + d4 + d5 + d6) + 256 * ((d4 + d5 + d6 + d7) + 256 * ((d5 + d6 + d7) + 256 * ((d6 + d7) + 256 * d7)))))) := by intro z hz; omega
  rw [e5 _ rfl]
  have e6 : ∀ z, z = (d0 + d1 + d2 + d3) + 256 * ((d1 + d2 + d3 + d4) + 256 * ((d2 + d3 + d4 + d5) + 256 * ((d3 + d4 + d5 + d6) + 256 * ((d4 + d5 + d6 + d7) + 256 * ((d5 + d6 + d7) + 256 * ((d6 + d7) + 256 * d7)))))) → (z + z / 4294967296) % 128 = d0 + (d1 + (d2 + (d3 + (d4 + (d5 + (d6 + d7)))))) ∧ z + z / 4294967296 < 9223372036854775808 := by
    intro z hz
    have hd : z / 4294967296 = (d4 + d5 + d6 + d7) + 256 * ((d5 + d6 + d7) + 256 * ((d6 + d7) + 256 * d7)) := by omega
    rw [hd]
    have hs : z + ((d4 + d5 + d6 + d7) + 256 * ((d5 + d6 + d7) + 256 * ((d6 + d7) + 256 * d7))) = (d0 + (d1 + (d2 + (d3 + (d4 + (d5 + (d6 + d7))))))) + 128 * (2 * ((d1 + d2 + d3 + d4 + d5 + d6 + d7) + 256 * ((d2 + d3 + d4 + d5 + d6 + d7) + 256 * ((d3 + d4 + d5 + d6 + d7) + 256 * ((d4 + d5 + d6 + d7) + 256 * ((d5 + d6 + d7) + 256 * ((d6 + d7) + 256 * d7))))))) := by omega
    rw [hs]
    clear hs hd hz e4 e5 h3
    constructor
    · omega
    · omega
  exact e6 _ rfl

/-- One bits, counted one by one. -/
theorem popAux_count : ∀ (f x : Nat), popAux f x = (List.range f).countP (fun j => x.testBit j)
  | 0, x => by simp [popAux]
  | f + 1, x => by
    rw [popAux, popAux_count f (x / 2), List.range_succ_eq_map, List.countP_cons, List.countP_map]
    have h1 : ((fun j => x.testBit j) ∘ Nat.succ) = fun j => (x / 2).testBit j := by
      funext j
      simp only [Function.comp, Nat.succ_eq_add_one, Nat.testBit_succ]
    have h0 : x % 2 = if x.testBit 0 = true then 1 else 0 := by
      rw [Nat.testBit_zero]
      by_cases h : x % 2 = 1
      · simp [h]
      · simp [show x % 2 = 0 by omega]
    rw [h1, h0]
    omega
theorem popAux_join : ∀ (f x y : Nat), popAux f (x &&& y) + popAux f (x ||| y) = popAux f x + popAux f y
  | 0, _, _ => rfl
  | f + 1, x, y => by
    have ih := popAux_join f (x / 2) (y / 2)
    simp only [popAux]
    have e1 : (x &&& y) / 2 = x / 2 &&& y / 2 := Nat.and_div_two_pow (n := 1)
    have e2 : (x ||| y) / 2 = x / 2 ||| y / 2 := Nat.or_div_two_pow (n := 1)
    have e3 : (x &&& y) % 2 = x % 2 &&& y % 2 := Nat.and_mod_two_pow (n := 1)
    have e4 : (x ||| y) % 2 = x % 2 ||| y % 2 := Nat.or_mod_two_pow (n := 1)
    rw [e1, e2, e3, e4]
    have h : ∀ a, a < 2 → ∀ b, b < 2 → (a &&& b) + (a ||| b) = a + b := by decide
    have := h (x % 2) (by omega) (y % 2) (by omega)
    omega
theorem onesCount_le (x : Nat) : onesCount x ≤ 64 := by
  have h : ∀ f x, popAux f x ≤ f := by
    intro f
    induction f with
    | zero => intro x; simp [popAux]
    | succ f ih => intro x; have := ih (x / 2); simp only [popAux]; omega
  exact h 64 x

end Go.Proofs.YtnbllngljgmebaaDoor
