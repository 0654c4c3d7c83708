/-
  Tags: which numbers are tags, which bytes they have, and which tag stands in bytes; put and got undo each other, and no tag's bytes begin another one's. (No program is named here.)
-/
import Derived.Test.YtmobillfeldcjaaDoorStrs
namespace Go.Proofs.YtmobillfeldcjaaDoor

/-- How many bytes a tag has that begins so; 0: none begins so. -/
def tfirst (c : Nat) : Nat := if c = 0 ∨ c / 32 % 2 = 1 then 0 else if c % 32 = 31 then 2 else 1
def tends (c : Nat) : Prop := 1 ≤ c ∧ c ≤ 127
instance (c : Nat) : Decidable (tends c) := by unfold tends; infer_instance
/-- The number is a tag: of one byte; of two bytes. -/
def tone (n : Nat) : Prop := n < 256 ∧ tfirst n = 1
def ttwo (n : Nat) : Prop := 256 ≤ n ∧ n < 65536 ∧ tfirst (n / 256) = 2 ∧ tends (n % 256)
instance (n : Nat) : Decidable (tone n) := by unfold tone; infer_instance
instance (n : Nat) : Decidable (ttwo n) := by unfold ttwo; infer_instance
def tputL (n : Nat) : List UInt8 := if n < 256 then [UInt8.ofNat n] else [UInt8.ofNat (n / 256), UInt8.ofNat (n % 256)]
/-- What two bytes say that stand there, the second one perhaps not. -/
def tread (p a : Nat) : Option Nat → Nat × Nat × Nat
  | none => if tfirst a = 0 then (0, 0, 13) else if tfirst a = 1 then (a, p + 1, 0) else (0, 0, 2)
  | some b => if tfirst a = 0 then (0, 0, 13) else if tfirst a = 1 then (a, p + 1, 0) else if tends b then (256 * a + b, p + 2, 0) else (0, 0, 13)
/-- The tag, the place behind it, an error. -/
def tget (l : List UInt8) (p : Nat) : Nat × Nat × Nat :=
  match l[p]? with
  | none => (0, 0, 2)
  | some a => tread p a.toNat ((l[p + 1]?).map UInt8.toNat)

theorem tfirst_cases (c : Nat) : (tfirst c = 0 ∧ (c = 0 ∨ c / 32 % 2 = 1)) ∨ (tfirst c = 1 ∧ c ≠ 0 ∧ c / 32 % 2 = 0 ∧ c % 32 ≠ 31) ∨ (tfirst c = 2 ∧ c ≠ 0 ∧ c / 32 % 2 = 0 ∧ c % 32 = 31) := by
  unfold tfirst
  split
  · left; exact ⟨rfl, by assumption⟩
  · split
    · right; right; refine ⟨rfl, ?_, ?_, by assumption⟩ <;> omega
    · right; left; refine ⟨rfl, ?_, ?_, by assumption⟩ <;> omega
theorem tputL_one {n : Nat} (h : n < 256) : tputL n = [UInt8.ofNat n] := by unfold tputL; rw [if_pos h]
theorem tputL_two {n : Nat} (h : 256 ≤ n) : tputL n = [UInt8.ofNat (n / 256), UInt8.ofNat (n % 256)] := by unfold tputL; rw [if_neg (by omega)]
theorem tputL_length_le (n : Nat) : 1 ≤ (tputL n).length ∧ (tputL n).length ≤ 2 := by unfold tputL; split <;> simp

theorem tget_cut {l : List UInt8} {p : Nat} (h : l.length ≤ p) : tget l p = (0, 0, 2) := by unfold tget; rw [List.getElem?_eq_none h]
theorem tget_at {l : List UInt8} {p : Nat} (a : UInt8) (h : l[p]? = some a) : tget l p = tread p a.toNat ((l[p + 1]?).map UInt8.toNat) := by unfold tget; rw [h]
theorem tread_no {p a : Nat} (o : Option Nat) (h : tfirst a = 0) : tread p a o = (0, 0, 13) := by cases o <;> simp [tread, h]
theorem tread_one {p a : Nat} (o : Option Nat) (h : tfirst a = 1) : tread p a o = (a, p + 1, 0) := by cases o <;> simp [tread, h]
theorem tread_cut {p a : Nat} (h : tfirst a = 2) : tread p a none = (0, 0, 2) := by simp [tread, h]
theorem tread_bad {p a b : Nat} (h : tfirst a = 2) (hb : ¬ tends b) : tread p a (some b) = (0, 0, 13) := by simp [tread, h, hb]
theorem tread_two {p a b : Nat} (h : tfirst a = 2) (hb : tends b) : tread p a (some b) = (256 * a + b, p + 2, 0) := by simp [tread, h, hb]
theorem tread_err {p a : Nat} {o : Option Nat} (h : (tread p a o).2.2 ≠ 0) : (tread p a o).1 = 0 ∧ (tread p a o).2.1 = 0 := by
  rcases tfirst_cases a with ⟨h0, _⟩ | ⟨h1, _⟩ | ⟨h2, _⟩
  · rw [tread_no o h0]; exact ⟨rfl, rfl⟩
  · rw [tread_one o h1] at h; exact absurd rfl h
  · cases o with
    | none => rw [tread_cut h2]; exact ⟨rfl, rfl⟩
    | some b =>
      by_cases hb : tends b
      · rw [tread_two h2 hb] at h; exact absurd rfl h
      · rw [tread_bad h2 hb]; exact ⟨rfl, rfl⟩
theorem tget_err {l : List UInt8} {p : Nat} (h : (tget l p).2.2 ≠ 0) : (tget l p).1 = 0 ∧ (tget l p).2.1 = 0 := by
  unfold tget at *
  split at h
  · exact ⟨rfl, rfl⟩
  · exact tread_err h

/-- A tag that is put is got. -/
theorem tget_back {n : Nat} (x y : List UInt8) (h : tone n ∨ ttwo n) : tget (x ++ tputL n ++ y) x.length = (n, x.length + (tputL n).length, 0) := by
  rcases h with ⟨h, h1⟩ | ⟨h, h0, h1, h2⟩
  · rw [tputL_one h, List.append_assoc]
    rw [tget_at (UInt8.ofNat n) (by simp), ofNat_val h, tread_one _ h1]
    rfl
  · rw [tputL_two h, List.append_assoc]
    rw [tget_at (UInt8.ofNat (n / 256)) (by simp), ofNat_val (by omega)]
    rw [show (x ++ ([UInt8.ofNat (n / 256), UInt8.ofNat (n % 256)] ++ y))[x.length + 1]? = some (UInt8.ofNat (n % 256)) by rw [List.getElem?_append_right (by omega)]; simp]
    rw [Option.map_some, ofNat_val (by omega), tread_two h1 h2]
    rw [show 256 * (n / 256) + n % 256 = n by omega]
    rfl

/-- Bytes that are got are put as they were. -/
theorem tget_one {l : List UInt8} (h : (tget l 0).2.2 = 0) : (tone (tget l 0).1 ∨ ttwo (tget l 0).1) ∧ (tget l 0).2.1 ≤ l.length ∧ tputL (tget l 0).1 = l.take (tget l 0).2.1 := by
  match l with
  | [] => exact absurd h (by decide)
  | [a] =>
    have e : tget [a] 0 = tread 0 a.toNat none := rfl
    rw [e] at h ⊢
    have ha := a.toNat_lt
    rcases tfirst_cases a.toNat with ⟨h0, _⟩ | ⟨h1, _⟩ | ⟨h2, _⟩
    · rw [tread_no _ h0] at h; exact absurd h (by decide)
    · rw [tread_one _ h1]
      refine ⟨Or.inl ⟨by omega, h1⟩, by simp, ?_⟩
      show tputL a.toNat = [a]
      rw [tputL_one (by omega), UInt8.ofNat_toNat]
    · rw [tread_cut h2] at h; exact absurd h (by decide)
  | a :: b :: r =>
    have e : tget (a :: b :: r) 0 = tread 0 a.toNat (some b.toNat) := rfl
    rw [e] at h ⊢
    have ha := a.toNat_lt
    have hb := b.toNat_lt
    rcases tfirst_cases a.toNat with ⟨h0, _⟩ | ⟨h1, _⟩ | ⟨h2, g0, g1, g2⟩
    · rw [tread_no _ h0] at h; exact absurd h (by decide)
    · rw [tread_one _ h1]
      refine ⟨Or.inl ⟨by omega, h1⟩, by simp, ?_⟩
      show tputL a.toNat = [a]
      rw [tputL_one (by omega), UInt8.ofNat_toNat]
    · by_cases ht : tends b.toNat
      · rw [tread_two h2 ht]
        have d1 : (256 * a.toNat + b.toNat) / 256 = a.toNat := by omega
        have d2 : (256 * a.toNat + b.toNat) % 256 = b.toNat := by omega
        refine ⟨Or.inr ⟨by omega, by omega, by rw [d1]; exact h2, by rw [d2]; exact ht⟩, by simp, ?_⟩
        show tputL (256 * a.toNat + b.toNat) = [a, b]
        rw [tputL_two (by omega), d1, d2, UInt8.ofNat_toNat, UInt8.ofNat_toNat]
      · rw [tread_bad h2 ht] at h; exact absurd h (by decide)

/-- No tag's bytes begin another one's. -/
theorem tput_apart {m n : Nat} (hm : tone m ∨ ttwo m) (hn : tone n ∨ ttwo n) (k : Nat) (hk : k = min (tputL m).length (tputL n).length) : (tputL m).take k = (tputL n).take k ↔ m = n := by
  subst hk
  constructor
  · intro h
    have e1 := tget_back [] [] hm
    have e2 := tget_back [] [] hn
    rcases hm with ⟨a1, a2⟩ | ⟨a1, a2, a3, a4⟩ <;> rcases hn with ⟨b1, b2⟩ | ⟨b1, b2, b3, b4⟩
    · rw [tputL_one a1, tputL_one b1] at h
      have h := congrArg UInt8.toNat (List.head_eq_of_cons_eq h)
      rw [ofNat_val a1, ofNat_val b1] at h
      exact h
    · rw [tputL_one a1, tputL_two b1] at h
      have h := congrArg UInt8.toNat (List.head_eq_of_cons_eq h)
      rw [ofNat_val a1, ofNat_val (by omega)] at h
      rw [← h, a2] at b3
      exact absurd b3 (by decide)
    · rw [tputL_two a1, tputL_one b1] at h
      have h := congrArg UInt8.toNat (List.head_eq_of_cons_eq h)
      rw [ofNat_val b1, ofNat_val (by omega)] at h
      rw [h, b2] at a3
      exact absurd a3 (by decide)
    · rw [tputL_two a1, tputL_two b1] at h
      simp only [List.length_cons, List.length_nil, Nat.min_self, List.take_succ_cons, List.take_zero, List.cons.injEq, and_true] at h
      obtain ⟨h1, h2⟩ := h
      have h1 := congrArg UInt8.toNat h1
      have h2 := congrArg UInt8.toNat h2
      rw [ofNat_val (by omega), ofNat_val (by omega)] at h1 h2
      omega
  · rintro rfl; rfl

end Go.Proofs.YtmobillfeldcjaaDoor
