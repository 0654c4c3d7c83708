/-
  Texts of one family, laid together: DigMath, DigAlls, DigAll, DigRefPut, DigPut, DigGet, DigPad, DigRefPad.
-/
import Derived.Test.YtbhlennolghjmaaDoorRows
import Derived.WalkKit
import Derived.WalkSpells
import Derived.WalkLawsBesides
import Derived.Lib.Hide
import Derived.Test.YtbhlennolghjmaaDoorShelf
import Derived.Lib.Strings
import Derived.Lib.IndexBytes

/-
  Plain facts on decimal digits (lists of bytes and numbers); nothing of the program.
-/
namespace Go.Proofs.YtbhlennolghjmaaDoor

def isD (c : UInt8) : Bool := decide (48 ≤ c.toNat) && decide (c.toNat ≤ 57)
def allD (l : List UInt8) : Bool := l.all isD
def dg (n : Nat) : UInt8 := UInt8.ofNat (48 + n % 10)
def putL : Nat → Nat → List UInt8
  | _, 0 => []
  | n, k + 1 => putL (n / 10) k ++ [dg n]
def numL (l : List UInt8) : Nat := l.foldl (fun n c => 10 * n + (c.toNat - 48)) 0

theorem dg_toNat (n : Nat) : (dg n).toNat = 48 + n % 10 := by
  unfold dg
  rw [UInt8.toNat_ofNat']
  omega
theorem isD_dg (n : Nat) : isD (dg n) = true := by
  have := dg_toNat n
  unfold isD
  simp
  omega
theorem isD_iff (c : UInt8) : isD c = true ↔ 48 ≤ c.toNat ∧ c.toNat ≤ 57 := by
  unfold isD; simp
theorem isD_false (c : UInt8) : isD c = false ↔ c.toNat < 48 ∨ 57 < c.toNat := by
  have := isD_iff c
  cases h : isD c
  · simp [h] at this
    constructor
    · intro _
      by_cases g : 48 ≤ c.toNat
      · exact Or.inr (this g)
      · exact Or.inl (by omega)
    · intro _; rfl
  · simp [h] at this
    constructor
    · intro h; cases h
    · intro h; omega

theorem putL_length (n k : Nat) : (putL n k).length = k := by
  induction k generalizing n with
  | zero => rfl
  | succ k ih => simp [putL, ih]
theorem putL_cons (n k : Nat) : putL n (k + 1) = dg (n / 10 ^ k) :: putL n k := by
  induction k generalizing n with
  | zero => simp [putL]
  | succ k ih =>
    rw [putL, ih (n / 10), putL]
    simp [Nat.div_div_eq_div_mul, Nat.pow_succ, Nat.mul_comm]
theorem putL_all (n k : Nat) : allD (putL n k) = true := by
  induction k generalizing n with
  | zero => rfl
  | succ k ih =>
    have := ih (n / 10)
    unfold allD at *
    simp [putL, List.all_append, this, isD_dg]
theorem numL_snoc (l : List UInt8) (c : UInt8) : numL (l ++ [c]) = 10 * numL l + (c.toNat - 48) := by
  simp [numL, List.foldl_append]
theorem numL_putL (n k : Nat) : numL (putL n k) = n % 10 ^ k := by
  induction k generalizing n with
  | zero => simp [putL, numL, Nat.mod_one]
  | succ k ih =>
    rw [putL, numL_snoc, ih, dg_toNat, Nat.pow_succ, Nat.mul_comm (10 ^ k) 10, Nat.mod_mul]
    omega
theorem allD_snoc (l : List UInt8) (c : UInt8) : allD (l ++ [c]) = (allD l && isD c) := by
  simp [allD]
theorem allD_take {l : List UInt8} (h : allD l = true) (k : Nat) : allD (l.take k) = true := by
  unfold allD at *
  rw [List.all_eq_true] at *
  exact fun x hx => h x (List.mem_of_mem_take hx)
theorem allD_drop {l : List UInt8} (h : allD l = true) (k : Nat) : allD (l.drop k) = true := by
  unfold allD at *
  rw [List.all_eq_true] at *
  exact fun x hx => h x (List.mem_of_mem_drop hx)
theorem dg_of (c : UInt8) (m : Nat) (h : isD c = true) : dg (10 * m + (c.toNat - 48)) = c := by
  rw [isD_iff] at h
  apply UInt8.toNat_inj.1
  rw [dg_toNat]
  omega
theorem rev_ind {P : List UInt8 → Prop} (h0 : P []) (h1 : ∀ l c, P l → P (l ++ [c])) (l : List UInt8) : P l := by
  rw [← List.reverse_reverse l]
  induction l.reverse with
  | nil => exact h0
  | cons c t ih => rw [List.reverse_cons]; exact h1 _ _ ih
theorem putL_numL (l : List UInt8) : allD l = true → putL (numL l) l.length = l := by
  refine rev_ind (P := fun l => allD l = true → putL (numL l) l.length = l) (fun _ => rfl) ?_ l
  intro l c ih h
  rw [allD_snoc, Bool.and_eq_true] at h
  have hc := (isD_iff c).1 h.2
  rw [numL_snoc, List.length_append, List.length_singleton, putL, dg_of c _ h.2]
  rw [show (10 * numL l + (c.toNat - 48)) / 10 = numL l from by omega, ih h.1]
theorem numL_lt (l : List UInt8) : allD l = true → numL l < 10 ^ l.length := by
  refine rev_ind (P := fun l => allD l = true → numL l < 10 ^ l.length) (fun _ => by simp [numL]) ?_ l
  intro l c ih h
  rw [allD_snoc, Bool.and_eq_true] at h
  have hc := (isD_iff c).1 h.2
  have := ih h.1
  rw [numL_snoc, List.length_append, List.length_singleton, Nat.pow_succ]
  omega

def putB (n w : Int) : Bool := decide (0 ≤ n) && decide (1 ≤ w) && decide (w ≤ 18) && decide (n < 10 ^ w.toNat)
def putS (n w : Int) : ByteArray := if putB n w = true then ⟨(putL n.toNat w.toNat).toArray⟩ else ⟨#[]⟩
theorem putB_mk {n w : Int} (h0 : 0 ≤ n) (h1 : 1 ≤ w) (h2 : w ≤ 18) (h3 : n.toNat / 10 ^ w.toNat = 0) : putB n w = true := by
  have h4 := (Nat.div_eq_zero_iff).1 h3
  have h5 : (0 : Nat) < 10 ^ w.toNat := Nat.pow_pos (by omega)
  have h6 : n < 10 ^ w.toNat := by
    have h7 : n.toNat < 10 ^ w.toNat := by omega
    have h8 : ((n.toNat : Nat) : Int) < ((10 ^ w.toNat : Nat) : Int) := Int.ofNat_lt.2 h7
    rw [Int.toNat_of_nonneg h0] at h8
    simpa using h8
  simp [putB, h0, h1, h2, h6]
theorem putB_no {n w : Int} (h : n < 0 ∨ w < 1 ∨ 18 < w ∨ (0 ≤ n ∧ 0 < n.toNat / 10 ^ w.toNat)) : putB n w = false := by
  rcases h with h | h | h | ⟨h0, h⟩
  · simp [putB, show ¬ 0 ≤ n by omega]
  · simp [putB, show ¬ 1 ≤ w by omega]
  · simp [putB, show ¬ w ≤ 18 by omega]
  · have h6 : ¬ n < 10 ^ w.toNat := by
      intro h6
      have h7 : ((n.toNat : Nat) : Int) < ((10 ^ w.toNat : Nat) : Int) := by
        rw [Int.toNat_of_nonneg h0]; simpa using h6
      have := Nat.div_eq_of_lt (Int.ofNat_lt.1 h7)
      omega
    simp [putB, h6]
theorem putS_yes {n w : Int} (h : putB n w = true) : putS n w = ⟨(putL n.toNat w.toNat).toArray⟩ := by simp [putS, h]
theorem putS_no {n w : Int} (h : putB n w = false) : putS n w = ⟨#[]⟩ := by simp [putS, h]

theorem pow18 (k : Nat) (h : k ≤ 18) : 10 ^ k ≤ 1000000000000000000 := by
  have := Nat.pow_le_pow_right (n := 10) (by omega) h
  simpa using this
theorem pow17 (k : Nat) (h : k ≤ 17) : 10 ^ k ≤ 100000000000000000 := by
  have := Nat.pow_le_pow_right (n := 10) (by omega) h
  simpa using this

end Go.Proofs.YtbhlennolghjmaaDoor

/-
  What Digit and both Alls answer: for every text, in every world.
-/
namespace Go.Proofs.YtbhlennolghjmaaDoor
open Go.RowKit

set_option maxRecDepth 100000 in
set_option maxHeartbeats 400000 in
theorem digit_any (c : Int) (w : World) :
    Calls Tryd.prog 112 #[.int .u8 c] w fun e w' => e = .returned (.bool (decide (48 ≤ c) && decide (c ≤ 57))) ∧ w = w' := by
  go_enter Tryd.func112, Tryd.ntmps112
  go_wp2
  all_goals go_ret
  · exact ⟨by simp [*], rfl⟩
  · exact ⟨by simp [show ¬ 48 ≤ c by omega], rfl⟩
theorem digit_byte (c : UInt8) (w : World) :
    Calls Tryd.prog 112 #[.int .u8 (c.toNat : Int)] w fun e w' => e = .returned (.bool (isD c)) ∧ w = w' := by
  refine (digit_any _ w).mono fun e w' h => ?_
  have e1 : (decide ((48 : Int) ≤ (c.toNat : Int)) && decide ((c.toNat : Int) ≤ 57)) = isD c := by
    unfold isD
    rw [Bool.eq_iff_iff]
    simp
    omega
  rw [e1] at h
  exact h

theorem take_snoc (s : ByteArray) (k : Nat) (h : k < s.size) : s.data.toList.take (k + 1) = s.data.toList.take k ++ [s[k]] := by
  rw [List.take_succ_eq_append_getElem (by simpa using h)]; rfl
theorem allD_step (s : ByteArray) (k : Nat) (h : k < s.size) : allD (s.data.toList.take (k + 1)) = (allD (s.data.toList.take k) && isD s[k]) := by
  rw [take_snoc s k h, allD_snoc]
theorem allD_bad (s : ByteArray) (k : Nat) (h : k < s.size) (hb : isD s[k] = false) : allD s.data.toList = false := by
  unfold allD
  rw [List.all_eq_false]
  exact ⟨s[k], by show s.data[k] ∈ s.data.toList; simp, by simp [hb]⟩

set_option maxRecDepth 100000 in
set_option maxHeartbeats 800000 in
theorem refAll_any (s : ByteArray) (w : World) (hs : s.size ≤ maxLen) :
    Calls Tryd.prog 105 #[.string s] w fun e w' => e = .returned (.bool (allD s.data.toList)) ∧ w = w' := by
  unfold maxLen at hs
  go_enter Tryd.func105, Tryd.ntmps105
  go_wp2
  go_loop [3] (fun i => ∃ k : Nat, k ≤ s.size ∧ i = .int .i64 k ∧ allD (s.data.toList.take k) = true) (fun i => s.size - (intOf i).toNat)
  case atStart => exact ⟨0, Nat.zero_le _, rfl, rfl⟩
  case round =>
    obtain ⟨k, hk, rfl, ha⟩ := hrel
    by_cases hlt : k < s.size
    · have hst := allD_step s k hlt
      have hbad := allD_bad s k hlt
      rw [ha] at hst
      cases hd : isD s[k]
      · have HB := Lib.hid (hbad hd); clear hbad hst ha
        have hdc : Calls Tryd.prog 112 #[.int .u8 ((s[k].toNat : Nat) : Int)] w fun e w' => e = .returned (.bool false) ∧ w = w' := by
          have := digit_byte s[k] w; rw [hd] at this; exact this
        have HD := Lib.hid hdc; clear hdc hd
        go_wp2_with (go_at_call 112; refine HD.out.mono ?_; rintro e w' ⟨rfl, rfl⟩)
        go_ret
        exact ⟨by rw [HB.out]; rfl, rfl⟩
      · rw [hd] at hst
        have HS := Lib.hid hst; clear hbad hst ha
        have hdc : Calls Tryd.prog 112 #[.int .u8 ((s[k].toNat : Nat) : Int)] w fun e w' => e = .returned (.bool true) ∧ w = w' := by
          have := digit_byte s[k] w; rw [hd] at this; exact this
        have HD := Lib.hid hdc; clear hdc hd
        go_wp2_with (go_at_call 112; refine HD.out.mono ?_; rintro e w' ⟨rfl, rfl⟩)
        go_round
        case rel => exact ⟨k + 1, by omega, by go_num, by rw [HS.out]; rfl⟩
        case measure => simp [intOf]; omega
    · have HA := Lib.hid ha; clear ha
      go_wp2
      go_ret
      have h := HA.out
      rw [List.take_of_length_le (by simp; omega)] at h
      exact ⟨by rw [h]; rfl, rfl⟩

set_option maxRecDepth 100000 in
set_option maxHeartbeats 800000 in
theorem all_any (s : ByteArray) (w : World) :
    Calls Tryd.prog 97 #[.string s] w fun e w' => e = .returned (.bool (allD s.data.toList)) ∧ Below w.heap.size w w' := by
  go_enter Tryd.func97, Tryd.ntmps97
  go_wp2
  go_loopw [] (fun w' => ∃ k : Nat, k ≤ s.size ∧ w' = w.iter s k ∧ allD (s.data.toList.take k) = true) (fun w' => s.size - w'.iterPos w.heap.size)
  case atStart => exact ⟨0, Nat.zero_le _, rfl, rfl⟩
  case round =>
    obtain ⟨k, hk, rfl, ha⟩ := hrel
    by_cases hlt : k < s.size
    · have hst := allD_step s k hlt
      have hbad := allD_bad s k hlt
      rw [ha] at hst
      have hnx : ∀ ty, (Instr.next (.pointer (some ⟨w.heap.size, 0, none⟩)) true ty).run Tryd.prog (w.iter s k) = _ := fun ty => run_next_any w s k ty hlt
      cases hd : isD s[k]
      · have HB := Lib.hid (hbad hd); clear hbad hst ha
        rw [isD_false] at hd
        have hr : ((Utf8.decode s k).1 : Int) < 48 ∨ 57 < ((Utf8.decode s k).1 : Int) := by
          by_cases h8 : s[k].toNat < 128
          · rw [decode_ascii s k hlt h8]; dsimp only; omega
          · have := (decode_high s k hlt (by omega)).1; omega
        clear hd
        by_cases h1 : ((Utf8.decode s k).1 : Int) < 48
        · clear hr
          go_wp2
          go_ret
          exact ⟨by rw [HB.out]; rfl, (Below.refl _ _).alloc (Nat.le_refl _) _⟩
        · have h2 : 57 < ((Utf8.decode s k).1 : Int) := by omega
          clear hr
          go_wp2
          go_ret
          exact ⟨by rw [HB.out]; rfl, (Below.refl _ _).alloc (Nat.le_refl _) _⟩
      · rw [hd] at hst
        have HS := Lib.hid hst; clear hbad hst ha
        rw [isD_iff] at hd
        have hde := decode_ascii s k hlt (by omega)
        rw [hde] at hnx
        have h1 : (48 : Int) ≤ (s[k].toNat : Int) := by omega
        have h2 : (s[k].toNat : Int) ≤ 57 := by omega
        clear hd hde
        go_wp2
        go_roundw
        case rel => exact ⟨k + 1, by omega, rfl, by rw [HS.out]; rfl⟩
        case measure => simp; omega
    · have HA := Lib.hid ha; clear ha
      have hnx : ∀ ty, (Instr.next (.pointer (some ⟨w.heap.size, 0, none⟩)) true ty).run Tryd.prog (w.iter s k) = _ := fun ty => run_next_end w s k ty hlt
      go_wp2
      go_ret
      have h := HA.out
      rw [List.take_of_length_le (by simp; omega)] at h
      exact ⟨by rw [h]; rfl, (Below.refl _ _).alloc (Nat.le_refl _) _⟩

end Go.Proofs.YtbhlennolghjmaaDoor

/-
  What within answers: for every two numbers, in every world.
-/
namespace Go.Proofs.YtbhlennolghjmaaDoor
open Go.RowKit

def wB (n m : Int) : Bool := decide (1 ≤ n) && decide (n ≤ m)
theorem wB_yes {n m : Int} (h : 1 ≤ n) (h' : n ≤ m) : wB n m = true := by simp [wB, h, h']
theorem wB_no {n m : Int} (h : n < 1 ∨ m < n) : wB n m = false := by
  rcases h with h | h
  · simp [wB, show ¬ 1 ≤ n by omega]
  · simp [wB, show ¬ n ≤ m by omega]
set_option maxRecDepth 100000 in
set_option maxHeartbeats 400000 in
theorem within_yes (n m : Int) (w : World) (h : 1 ≤ n) (h' : n ≤ m) :
    Calls Tryd.prog 100 #[.int .i64 n, .int .i64 m] w fun e w' => e = .returned (.bool true) ∧ w = w' := by
  go_enter Tryd.func100, Tryd.ntmps100
  go_wp2
  go_ret
  exact ⟨by simp, rfl⟩
set_option maxRecDepth 100000 in
set_option maxHeartbeats 400000 in
theorem within_no (n m : Int) (w : World) (h : n < 1 ∨ m < n) :
    Calls Tryd.prog 100 #[.int .i64 n, .int .i64 m] w fun e w' => e = .returned (.bool false) ∧ w = w' := by
  by_cases h1 : n < 1
  · go_enter Tryd.func100, Tryd.ntmps100
    go_wp2
    go_ret
    exact ⟨rfl, rfl⟩
  · have h2 : m < n := by omega
    clear h
    go_enter Tryd.func100, Tryd.ntmps100
    go_wp2
    go_ret
    exact ⟨by simp [show ¬ n ≤ m by omega], rfl⟩

end Go.Proofs.YtbhlennolghjmaaDoor

/-
  What the document's Put answers: for every number and width, in every world.
-/
namespace Go.Proofs.YtbhlennolghjmaaDoor
open Go.RowKit

end Go.Proofs.YtbhlennolghjmaaDoor

/-
  What Put answers: for every number and width, in every world.
-/
namespace Go.Proofs.YtbhlennolghjmaaDoor
open Go.RowKit

end Go.Proofs.YtbhlennolghjmaaDoor

/-
  What both Gets answer: for every text, in every world.
-/
namespace Go.Proofs.YtbhlennolghjmaaDoor
open Go.RowKit

def getB (l : List UInt8) : Bool := decide (1 ≤ l.length) && decide (l.length ≤ 18) && allD l
def getN (l : List UInt8) : Int := if getB l = true then (numL l : Int) else 0
theorem getB_yes {l : List UInt8} (h1 : 1 ≤ l.length) (h2 : l.length ≤ 18) (h3 : allD l = true) : getB l = true := by simp [getB, h1, h2, h3]
theorem getB_no {l : List UInt8} (h : l.length < 1 ∨ 18 < l.length ∨ allD l = false) : getB l = false := by
  rcases h with h | h | h
  · simp [getB, show ¬ 1 ≤ l.length by omega]
  · simp [getB, show ¬ l.length ≤ 18 by omega]
  · simp [getB, h]
theorem getN_yes {l : List UInt8} (h : getB l = true) : getN l = numL l := by simp [getN, h]
theorem getN_no {l : List UInt8} (h : getB l = false) : getN l = 0 := by simp [getN, h]
theorem numL_step (s : ByteArray) (k : Nat) (h : k < s.size) : numL (s.data.toList.take (k + 1)) = 10 * numL (s.data.toList.take k) + (s[k].toNat - 48) := by
  rw [take_snoc s k h, numL_snoc]
theorem isD_at {s : ByteArray} (ha : allD s.data.toList = true) (k : Nat) (h : k < s.size) : isD s[k] = true := by
  unfold allD at ha
  rw [List.all_eq_true] at ha
  exact ha _ (by show s.data[k] ∈ s.data.toList; simp)
theorem numL_bd {s : ByteArray} (ha : allD s.data.toList = true) (k : Nat) (hk : k < s.size) (h : s.size ≤ 18) : numL (s.data.toList.take k) ≤ 100000000000000000 := by
  have h1 := numL_lt _ (allD_take ha k)
  have h2 := pow17 k (by omega)
  rw [List.length_take, Nat.min_eq_left (by simp; omega)] at h1
  omega

set_option maxRecDepth 100000 in
set_option maxHeartbeats 800000 in
theorem refGet_yes (s : ByteArray) (w : World) (h1 : 1 ≤ s.size) (h2 : s.size ≤ 18) (ha : allD s.data.toList = true) :
    Calls Tryd.prog 94 #[.string s] w fun e w' => e = .returned (.tuple #[.int .i64 (numL s.data.toList), .bool true]) ∧ w = w' := by
  have hall : ∀ w, Calls Tryd.prog 105 #[.string s] w fun e w' => e = .returned (.bool true) ∧ w = w' := by
    intro w
    have := refAll_any s w (by unfold maxLen; omega)
    rw [ha] at this
    exact this
  have HA := Lib.hid ha; clear ha
  have HL := Lib.hid hall; clear hall
  have t1 : decide ((s.size : Int) < 1) = false := by simp; omega
  have t2 : decide ((18 : Int) < (s.size : Int)) = false := by simp; omega
  go_enter Tryd.func94, Tryd.ntmps94
  go_wp2_with (go_at_call 105; refine (HL.out _).mono ?_; rintro e w' ⟨rfl, rfl⟩)
  go_loop [4, 5] (fun n i => ∃ k m : Nat, k ≤ s.size ∧ i = .int .i64 (k : Int) ∧ n = .int .i64 (m : Int) ∧ m = numL (s.data.toList.take k)) (fun _ i => s.size - (intOf i).toNat)
  case atStart => exact ⟨0, 0, Nat.zero_le _, rfl, rfl, rfl⟩
  case round =>
    obtain ⟨k, m, hk, rfl, rfl, hm⟩ := hrel
    have HM := Lib.hid hm; clear hm
    by_cases hlt : k < s.size
    · have hmb : m ≤ 100000000000000000 := by rw [HM.out]; exact numL_bd HA.out k hlt h2
      have hd := (isD_iff _).1 (isD_at HA.out k hlt)
      have g1 : 48 ≤ s[k].toNat := hd.1
      have g2 : s[k].toNat ≤ 57 := hd.2
      clear hd
      have HS := Lib.hid (numL_step s k hlt)
      go_wp2
      go_round
      case rel => exact ⟨k + 1, 10 * m + (s[k].toNat - 48), by omega, by go_num, by go_num, by rw [HS.out, HM.out]⟩
      case measure => simp [intOf]; omega
    · go_wp2
      go_ret2
      have h := HM.out
      rw [List.take_of_length_le (by simp; omega)] at h
      exact ⟨by rw [← h]; rfl, rfl⟩

set_option maxRecDepth 100000 in
set_option maxHeartbeats 800000 in
theorem refGet_no (s : ByteArray) (w : World) (hs : s.size ≤ maxLen) (h : s.size < 1 ∨ 18 < s.size ∨ allD s.data.toList = false) :
    Calls Tryd.prog 94 #[.string s] w fun e w' => e = .returned (.tuple #[.int .i64 0, .bool false]) ∧ w = w' := by
  have hall : ∀ w, Calls Tryd.prog 105 #[.string s] w fun e w' => e = .returned (.bool (allD s.data.toList)) ∧ w = w' := fun w => refAll_any s w hs
  unfold maxLen at hs
  have HL := Lib.hid hall; clear hall
  by_cases h1 : s.size < 1
  · clear h
    have t1 : decide ((s.size : Int) < 1) = true := by simp; omega
    go_enter Tryd.func94, Tryd.ntmps94
    go_wp2
    go_ret2
    exact ⟨rfl, rfl⟩
  · have t1 : decide ((s.size : Int) < 1) = false := by simp; omega
    by_cases h2 : 18 < s.size
    · clear h
      have t2 : decide ((18 : Int) < (s.size : Int)) = true := by simp; omega
      go_enter Tryd.func94, Tryd.ntmps94
      go_wp2
      go_ret2
      exact ⟨rfl, rfl⟩
    · have t2 : decide ((18 : Int) < (s.size : Int)) = false := by simp; omega
      have h3 : allD s.data.toList = false := by
        rcases h with h | h | h
        · omega
        · omega
        · exact h
      have HL2 : Hid (∀ w, Calls Tryd.prog 105 #[.string s] w fun e w' => e = .returned (.bool false) ∧ w = w') := by
        intro w
        have := HL.out w
        rw [h3] at this
        exact this
      clear h h3 HL
      go_enter Tryd.func94, Tryd.ntmps94
      go_wp2_with (go_at_call 105; refine (HL2.out _).mono ?_; rintro e w' ⟨rfl, rfl⟩)
      go_ret2
      exact ⟨rfl, rfl⟩
theorem refGet_any (s : ByteArray) (w : World) (hs : s.size ≤ maxLen) :
    Calls Tryd.prog 94 #[.string s] w fun e w' => e = .returned (.tuple #[.int .i64 (getN s.data.toList), .bool (getB s.data.toList)]) ∧ w = w' := by
  have hl : s.data.toList.length = s.size := by simp
  by_cases h : s.size < 1 ∨ 18 < s.size ∨ allD s.data.toList = false
  · have hb : getB s.data.toList = false := getB_no (by rw [hl]; exact h)
    rw [getN_no hb, hb]
    exact refGet_no s w hs h
  · have h1 : 1 ≤ s.size := by omega
    have h2 : s.size ≤ 18 := by omega
    have h3 : allD s.data.toList = true := by
      cases g : allD s.data.toList
      · exact absurd (Or.inr (Or.inr g)) h
      · rfl
    have hb : getB s.data.toList = true := getB_yes (by omega) (by omega) h3
    rw [getN_yes hb, hb]
    exact refGet_yes s w h1 h2 h3

set_option maxRecDepth 100000 in
set_option maxHeartbeats 800000 in
theorem get_yes (s : ByteArray) (w : World) (h1 : 1 ≤ s.size) (h2 : s.size ≤ 18) (ha : allD s.data.toList = true) :
    Calls Tryd.prog 87 #[.string s] w fun e w' => e = .returned (.tuple #[.int .i64 (numL s.data.toList), .bool true]) ∧ Below w.heap.size w w' := by
  have hall : ∀ w, Calls Tryd.prog 97 #[.string s] w fun e w' => e = .returned (.bool true) ∧ Below w.heap.size w w' := by
    intro w
    have := all_any s w
    rw [ha] at this
    exact this
  have HA := Lib.hid ha; clear ha
  have HL := Lib.hid hall; clear hall
  go_enter Tryd.func87, Tryd.ntmps87
  go_wp2_with (first | (go_at_call 100; refine (within_yes _ _ _ (by omega) (by omega)).mono ?_; rintro e w' ⟨rfl, rfl⟩) | (go_at_call 97; refine (HL.out _).mono ?_; rintro e w1 ⟨rfl, hb⟩))
  go_loopw [4] (fun n wr => ∃ k m : Nat, k ≤ s.size ∧ wr = w1.iter s k ∧ n = .int .i64 (m : Int) ∧ m = numL (s.data.toList.take k)) (fun _ wr => s.size - wr.iterPos w1.heap.size)
  case atStart => exact ⟨0, 0, Nat.zero_le _, rfl, rfl, rfl⟩
  case round =>
    obtain ⟨k, m, hk, rfl, rfl, hm⟩ := hrel
    have HM := Lib.hid hm; clear hm
    by_cases hlt : k < s.size
    · have hnx : ∀ ty, (Instr.next (.pointer (some ⟨w1.heap.size, 0, none⟩)) true ty).run Tryd.prog (w1.iter s k) = _ := fun ty => run_next_any w1 s k ty hlt
      have hmb : m ≤ 100000000000000000 := by rw [HM.out]; exact numL_bd HA.out k hlt h2
      have hd := (isD_iff _).1 (isD_at HA.out k hlt)
      rw [decode_ascii s k hlt (by omega)] at hnx
      have g1 : 48 ≤ s[k].toNat := hd.1
      have g2 : s[k].toNat ≤ 57 := hd.2
      clear hd
      have HS := Lib.hid (numL_step s k hlt)
      go_wp2
      go_roundw
      case rel => exact ⟨k + 1, 10 * m + (s[k].toNat - 48), by omega, rfl, by go_num, by rw [HS.out, HM.out]⟩
      case measure => simp; omega
    · have hnx : ∀ ty, (Instr.next (.pointer (some ⟨w1.heap.size, 0, none⟩)) true ty).run Tryd.prog (w1.iter s k) = _ := fun ty => run_next_end w1 s k ty hlt
      go_wp2
      go_ret2
      have h := HM.out
      rw [List.take_of_length_le (by simp; omega)] at h
      exact ⟨by rw [← h]; rfl, hb.alloc (by exact hb.size) _⟩

set_option maxRecDepth 100000 in
set_option maxHeartbeats 800000 in
theorem get_no (s : ByteArray) (w : World) (hs : s.size ≤ maxLen) (h : s.size < 1 ∨ 18 < s.size ∨ allD s.data.toList = false) :
    Calls Tryd.prog 87 #[.string s] w fun e w' => e = .returned (.tuple #[.int .i64 0, .bool false]) ∧ Below w.heap.size w w' := by
  unfold maxLen at hs
  by_cases h1 : s.size < 1 ∨ 18 < s.size
  · have H1 : Hid ((s.size : Int) < 1 ∨ 18 < (s.size : Int)) := by show _ ∨ _; omega
    clear h h1
    go_enter Tryd.func87, Tryd.ntmps87
    go_wp2_with (go_at_call 100; refine (within_no _ _ _ H1.out).mono ?_; rintro e w' ⟨rfl, rfl⟩)
    go_ret2
    exact ⟨rfl, Below.refl _ _⟩
  · have g1 : 1 ≤ s.size := by omega
    have g2 : s.size ≤ 18 := by omega
    have h3 : allD s.data.toList = false := by
      rcases h with h | h | h
      · omega
      · omega
      · exact h
    have hall : ∀ w, Calls Tryd.prog 97 #[.string s] w fun e w' => e = .returned (.bool false) ∧ Below w.heap.size w w' := by
      intro w
      have := all_any s w
      rw [h3] at this
      exact this
    have HL := Lib.hid hall; clear hall h h1 h3
    go_enter Tryd.func87, Tryd.ntmps87
    go_wp2_with (first | (go_at_call 100; refine (within_yes _ _ _ (by omega) (by omega)).mono ?_; rintro e w' ⟨rfl, rfl⟩) | (go_at_call 97; refine (HL.out _).mono ?_; rintro e w1 ⟨rfl, hb⟩))
    go_ret2
    exact ⟨rfl, hb⟩
theorem get_any (s : ByteArray) (w : World) (hs : s.size ≤ maxLen) :
    Calls Tryd.prog 87 #[.string s] w fun e w' => e = .returned (.tuple #[.int .i64 (getN s.data.toList), .bool (getB s.data.toList)]) ∧ Below w.heap.size w w' := by
  have hl : s.data.toList.length = s.size := by simp
  by_cases h : s.size < 1 ∨ 18 < s.size ∨ allD s.data.toList = false
  · have hb : getB s.data.toList = false := getB_no (by rw [hl]; exact h)
    rw [getN_no hb, hb]
    exact get_no s w hs h
  · have h1 : 1 ≤ s.size := by omega
    have h2 : s.size ≤ 18 := by omega
    have h3 : allD s.data.toList = true := by
      cases g : allD s.data.toList
      · exact absurd (Or.inr (Or.inr g)) h
      · rfl
    have hb : getB s.data.toList = true := getB_yes (by omega) (by omega) h3
    rw [getN_yes hb, hb]
    exact get_yes s w h1 h2 h3

end Go.Proofs.YtbhlennolghjmaaDoor

/-
  What both Pads answer: for every text and width, in every world.
-/
namespace Go.Proofs.YtbhlennolghjmaaDoor
open Go.RowKit

def zs (l : List UInt8) : Bool := l.all fun c => c == 48
def padA (l : List UInt8) (w : Int) : Bool := decide (1 ≤ l.length) && decide (l.length ≤ 999) && allD l && decide (1 ≤ w) && decide (w ≤ 999)
def padB (l : List UInt8) (w : Int) : Bool := padA l w && zs (l.take (l.length - w.toNat))
def padL (l : List UInt8) (w : Int) : List UInt8 := List.replicate (w.toNat - l.length) 48 ++ l.drop (l.length - w.toNat)
def padS (l : List UInt8) (w : Int) : ByteArray := if padB l w = true then ⟨(padL l w).toArray⟩ else ⟨#[]⟩
theorem padS_yes {l : List UInt8} {w : Int} (h : padB l w = true) : padS l w = ⟨(padL l w).toArray⟩ := by simp [padS, h]
theorem padS_no {l : List UInt8} {w : Int} (h : padB l w = false) : padS l w = ⟨#[]⟩ := by simp [padS, h]
theorem padA_no {l : List UInt8} {w : Int} (h : l.length < 1 ∨ 999 < l.length ∨ allD l = false ∨ w < 1 ∨ 999 < w) : padB l w = false := by
  unfold padB padA
  rcases h with h | h | h | h | h
  · simp [show ¬ 1 ≤ l.length by omega]
  · simp [show ¬ l.length ≤ 999 by omega]
  · simp [h]
  · simp [show ¬ 1 ≤ w by omega]
  · simp [show ¬ w ≤ 999 by omega]
theorem padA_yes {l : List UInt8} {w : Int} (h1 : 1 ≤ l.length) (h2 : l.length ≤ 999) (h3 : allD l = true) (h4 : 1 ≤ w) (h5 : w ≤ 999) : padA l w = true := by
  simp [padA, h1, h2, h3, h4, h5]
theorem padB_eq {l : List UInt8} {w : Int} (h : padA l w = true) : padB l w = zs (l.take (l.length - w.toNat)) := by simp [padB, h]
theorem bs_ext {a b : ByteArray} (h : a.data.toList = b.data.toList) : a = b := by
  apply ByteArray.ext; exact Array.toList_inj.1 h
theorem zs_snoc (l : List UInt8) (c : UInt8) : zs (l ++ [c]) = (zs l && c == 48) := by simp [zs]
theorem zs_step (s : ByteArray) (k : Nat) (h : k < s.size) : zs (s.data.toList.take (k + 1)) = (zs (s.data.toList.take k) && s[k] == 48) := by
  rw [take_snoc s k h, zs_snoc]
theorem zs_bad (s : ByteArray) (k : Nat) (h : k < s.size) (hb : (s[k] == 48) = false) : zs s.data.toList = false := by
  unfold zs
  rw [List.all_eq_false]
  exact ⟨s[k], by show s.data[k] ∈ s.data.toList; simp, by simp [hb]⟩
theorem is48 (c : UInt8) : (c == 48) = true ↔ c.toNat = 48 := by
  rw [beq_iff_eq]
  constructor
  · intro h; rw [h]; rfl
  · intro h; exact UInt8.toNat_inj.1 h
theorem not48 (c : UInt8) : (c == 48) = false ↔ c.toNat ≠ 48 := by
  rw [← Bool.not_eq_true, is48]

set_option maxRecDepth 100000 in
set_option maxHeartbeats 800000 in
theorem noughts_any (s : ByteArray) (w : World) :
    Calls Tryd.prog 111 #[.string s] w fun e w' => e = .returned (.bool (zs s.data.toList)) ∧ Below w.heap.size w w' := by
  go_enter Tryd.func111, Tryd.ntmps111
  go_wp2
  go_loopw [] (fun w' => ∃ k : Nat, k ≤ s.size ∧ w' = w.iter s k ∧ zs (s.data.toList.take k) = true) (fun w' => s.size - w'.iterPos w.heap.size)
  case atStart => exact ⟨0, Nat.zero_le _, rfl, rfl⟩
  case round =>
    obtain ⟨k, hk, rfl, ha⟩ := hrel
    by_cases hlt : k < s.size
    · have hst := zs_step s k hlt
      have hbad := zs_bad s k hlt
      rw [ha] at hst
      have hnx : ∀ ty, (Instr.next (.pointer (some ⟨w.heap.size, 0, none⟩)) true ty).run Tryd.prog (w.iter s k) = _ := fun ty => run_next_any w s k ty hlt
      cases hd : s[k] == 48
      · have HB := Lib.hid (hbad hd); clear hbad hst ha
        rw [not48] at hd
        have hr : (((Utf8.decode s k).1 : Int) != 48) = true := by
          rw [bne_iff_ne]
          by_cases h8 : s[k].toNat < 128
          · rw [decode_ascii s k hlt h8]; dsimp only; omega
          · have := (decode_high s k hlt (by omega)).1; omega
        clear hd
        go_wp2
        go_ret
        exact ⟨by rw [HB.out]; rfl, (Below.refl _ _).alloc (Nat.le_refl _) _⟩
      · rw [hd] at hst
        have HS := Lib.hid hst; clear hbad hst ha
        rw [is48] at hd
        have hde := decode_ascii s k hlt (by omega)
        rw [hde, hd] at hnx
        clear hd hde
        go_wp2
        go_roundw
        case rel => exact ⟨k + 1, by omega, rfl, by rw [HS.out]; rfl⟩
        case measure => simp; omega
    · have HA := Lib.hid ha; clear ha
      have hnx : ∀ ty, (Instr.next (.pointer (some ⟨w.heap.size, 0, none⟩)) true ty).run Tryd.prog (w.iter s k) = _ := fun ty => run_next_end w s k ty hlt
      go_wp2
      go_ret
      have h := HA.out
      rw [List.take_of_length_le (by simp; omega)] at h
      exact ⟨by rw [h]; rfl, (Below.refl _ _).alloc (Nat.le_refl _) _⟩

theorem pad_more (l : List UInt8) (k : Nat) (s : ByteArray) (hl : s.data.toList = l) (h : l.length ≤ k) :
    (⟨(Lib.repeatL [48] (k - l.length)).toArray⟩ : ByteArray) ++ s = ⟨(padL l (k : Int)).toArray⟩ := by
  obtain ⟨⟨d⟩⟩ := s
  have e : ∀ c, Lib.repeatL [48] c = List.replicate c (48 : UInt8) := by
    intro c
    induction c with
    | zero => rfl
    | succ c ih => rw [Lib.repeatL, ih, List.replicate_succ]; rfl
  simp only at hl
  subst hl
  rw [ByteArray.mk_append_mk, e]
  unfold padL
  rw [Int.toNat_natCast, show d.length - k = 0 from by omega, List.drop_zero]

set_option maxRecDepth 100000 in
set_option maxHeartbeats 800000 in
theorem pad_more_calls (s : ByteArray) (k : Nat) (w : World) (h1 : 1 ≤ s.size) (h2 : s.size ≤ 999) (ha : allD s.data.toList = true) (h4 : 1 ≤ k) (h5 : k ≤ 999) (hm : s.size ≤ k) :
    Calls Tryd.prog 103 #[.string s, .int .i64 (k : Int)] w fun e w' => e = .returned (.tuple #[.string ⟨(padL s.data.toList (k : Int)).toArray⟩, .bool true]) ∧ Below w.heap.size w w' := by
  have hall : ∀ w, Calls Tryd.prog 97 #[.string s] w fun e w' => e = .returned (.bool true) ∧ Below w.heap.size w w' := by
    intro w
    have := all_any s w
    rw [ha] at this
    exact this
  have HL := Lib.hid hall; clear hall ha
  have hrep : ∀ w, Calls Tryd.prog 110 #[.string ⟨#[48]⟩, .int .i64 ((k : Int) - (s.size : Int))] w fun e w' => e = .returned (.string ⟨(Lib.repeatL [48] (k - s.size)).toArray⟩) ∧ Below w.heap.size w w' := by
    intro w
    have := Tryd.strings_Repeat ⟨#[48]⟩ (k - s.size) w (by omega) (by show 1 * (k - s.size) ≤ _; omega)
    rw [show ((k - s.size : Nat) : Int) = (k : Int) - (s.size : Int) from by omega] at this
    exact this
  have HR := Lib.hid hrep; clear hrep
  have hadd : ∀ W : World, (Op.stringOp .add ⟨(Lib.repeatL [48] (k - s.size)).toArray⟩ s).run Tryd.prog W = .ok (.string ⟨(padL s.data.toList (k : Int)).toArray⟩) W := by
    intro W
    have hl : s.data.toList.length = s.size := by simp
    rw [run_string_add_sum W _ _ (by show (Lib.repeatL [48] (k - s.size)).toArray.size + s.size ≤ _; simp [Lib.repeatL_length]; omega), ← pad_more s.data.toList k s rfl (by omega), hl]
  go_enter Tryd.func103, Tryd.ntmps103
  go_wp2_with (first | (go_at_call 100; refine (within_yes _ _ _ (by omega) (by omega)).mono ?_; rintro e w' ⟨rfl, rfl⟩) | (go_at_call 97; refine (HL.out _).mono ?_; rintro e w1 ⟨rfl, hb1⟩) | (go_at_call 110; refine (HR.out _).mono ?_; rintro e w2 ⟨rfl, hb2⟩))
  go_ret2
  exact ⟨rfl, hb1.trans (hb2.mono (by exact hb1.size))⟩

theorem pad_less (s : ByteArray) (k : Nat) (h : k < s.size) : s.extract (s.size - k) s.size = ⟨(padL s.data.toList (k : Int)).toArray⟩ := by
  apply bs_ext
  have hl : s.data.toList.length = s.size := by simp
  rw [Lib.extract_to_end]
  unfold padL
  rw [Int.toNat_natCast, hl, show k - s.size = 0 from by omega]
  simp

set_option maxRecDepth 100000 in
set_option maxHeartbeats 800000 in
theorem pad_less_calls (s : ByteArray) (k : Nat) (w : World) (h1 : 1 ≤ s.size) (h2 : s.size ≤ 999) (ha : allD s.data.toList = true) (h4 : 1 ≤ k) (h5 : k ≤ 999) (hm : k < s.size) :
    Calls Tryd.prog 103 #[.string s, .int .i64 (k : Int)] w fun e w' => e = .returned (.tuple #[.string (if zs (s.data.toList.take (s.size - k)) = true then ⟨(padL s.data.toList (k : Int)).toArray⟩ else ⟨#[]⟩), .bool (zs (s.data.toList.take (s.size - k)))]) ∧ Below w.heap.size w w' := by
  have hall : ∀ w, Calls Tryd.prog 97 #[.string s] w fun e w' => e = .returned (.bool true) ∧ Below w.heap.size w w' := by
    intro w
    have := all_any s w
    rw [ha] at this
    exact this
  have HL := Lib.hid hall; clear hall ha
  have hz : ∀ w, Calls Tryd.prog 111 #[.string (s.extract 0 (s.size - k))] w fun e w' => e = .returned (.bool (zs (s.data.toList.take (s.size - k)))) ∧ Below w.heap.size w w' := by
    intro w
    have := noughts_any (s.extract 0 (s.size - k)) w
    rw [Lib.extract_data, List.drop_zero, Nat.sub_zero] at this
    exact this
  have hpl := pad_less s k hm
  cases hzz : zs (s.data.toList.take (s.size - k))
  · rw [hzz] at hz
    have HZ := Lib.hid hz; clear hz hzz hpl
    simp only [Bool.false_eq_true, if_false]
    have e1 : ((s.size : Int) - (k : Int)).toNat = s.size - k := by omega
    go_enter Tryd.func103, Tryd.ntmps103
    go_wp2_with (first | (go_at_call 100; refine (within_yes _ _ _ (by omega) (by omega)).mono ?_; rintro e w' ⟨rfl, rfl⟩) | (go_at_call 97; refine (HL.out _).mono ?_; rintro e w1 ⟨rfl, hb1⟩) | (go_at_call 111; refine (HZ.out _).mono ?_; rintro e w2 ⟨rfl, hb2⟩))
    go_ret2
    exact ⟨rfl, hb1.trans (hb2.mono (by exact hb1.size))⟩
  · rw [hzz] at hz
    have HZ := Lib.hid hz
    have HP := Lib.hid hpl
    clear hz hzz hpl
    simp only [if_true]
    have e1 : ((s.size : Int) - (k : Int)).toNat = s.size - k := by omega
    go_enter Tryd.func103, Tryd.ntmps103
    go_wp2_with (first | (go_at_call 100; refine (within_yes _ _ _ (by omega) (by omega)).mono ?_; rintro e w' ⟨rfl, rfl⟩) | (go_at_call 97; refine (HL.out _).mono ?_; rintro e w1 ⟨rfl, hb1⟩) | (go_at_call 111; refine (HZ.out _).mono ?_; rintro e w2 ⟨rfl, hb2⟩))
    go_ret2
    exact ⟨by rw [← HP.out]; rfl, hb1.trans (hb2.mono (by exact hb1.size))⟩

set_option maxRecDepth 100000 in
set_option maxHeartbeats 800000 in
theorem pad_no (s : ByteArray) (k : Int) (w : World) (hs : s.size ≤ maxLen) (h : s.size < 1 ∨ 999 < s.size ∨ allD s.data.toList = false ∨ k < 1 ∨ 999 < k) :
    Calls Tryd.prog 103 #[.string s, .int .i64 k] w fun e w' => e = .returned (.tuple #[.string ⟨#[]⟩, .bool false]) ∧ Below w.heap.size w w' := by
  unfold maxLen at hs
  by_cases h1 : s.size < 1 ∨ 999 < s.size
  · have H1 : Hid ((s.size : Int) < 1 ∨ 999 < (s.size : Int)) := by show _ ∨ _; omega
    clear h h1
    go_enter Tryd.func103, Tryd.ntmps103
    go_wp2_with (go_at_call 100; refine (within_no _ _ _ H1.out).mono ?_; rintro e w' ⟨rfl, rfl⟩)
    go_ret2
    exact ⟨rfl, Below.refl _ _⟩
  · have g1 : 1 ≤ s.size := by omega
    have g2 : s.size ≤ 999 := by omega
    by_cases h2 : k < 1 ∨ 999 < k
    · have H2 := Lib.hid h2
      clear h h1 h2
      have hin1 : ∀ w, Calls Tryd.prog 100 #[.int .i64 (s.size : Int), .int .i64 999] w fun e w' => e = .returned (.bool true) ∧ w = w' := fun w => within_yes _ _ w (by omega) (by omega)
      have hin2 : ∀ w, Calls Tryd.prog 100 #[.int .i64 k, .int .i64 999] w fun e w' => e = .returned (.bool false) ∧ w = w' := fun w => within_no _ _ w H2.out
      have K1 := Lib.hid hin1
      have K2 := Lib.hid hin2
      clear hin1 hin2 H2
      go_enter Tryd.func103, Tryd.ntmps103
      go_wp2_with fail
      refine (K1.out _).mono ?_
      rintro e w' ⟨rfl, rfl⟩
      go_wp2_with fail
      refine (K2.out _).mono ?_
      rintro e w' ⟨rfl, rfl⟩
      go_wp2
      go_ret2
      exact ⟨rfl, Below.refl _ _⟩
    · have g4 : 1 ≤ k := by omega
      have g5 : k ≤ 999 := by omega
      have h3 : allD s.data.toList = false := by
        rcases h with h | h | h | h | h
        · omega
        · omega
        · exact h
        · omega
        · omega
      have hall : ∀ w, Calls Tryd.prog 97 #[.string s] w fun e w' => e = .returned (.bool false) ∧ Below w.heap.size w w' := by
        intro w
        have := all_any s w
        rw [h3] at this
        exact this
      have HL := Lib.hid hall; clear hall h h1 h2 h3
      go_enter Tryd.func103, Tryd.ntmps103
      go_wp2_with (first | (go_at_call 100; refine (within_yes _ _ _ (by omega) (by omega)).mono ?_; rintro e w' ⟨rfl, rfl⟩) | (go_at_call 97; refine (HL.out _).mono ?_; rintro e w1 ⟨rfl, hb1⟩))
      go_ret2
      exact ⟨rfl, hb1⟩

theorem pad_any (s : ByteArray) (k : Int) (w : World) (hs : s.size ≤ maxLen) :
    Calls Tryd.prog 103 #[.string s, .int .i64 k] w fun e w' => e = .returned (.tuple #[.string (padS s.data.toList k), .bool (padB s.data.toList k)]) ∧ Below w.heap.size w w' := by
  have hl : s.data.toList.length = s.size := by simp
  by_cases h : s.size < 1 ∨ 999 < s.size ∨ allD s.data.toList = false ∨ k < 1 ∨ 999 < k
  · have hb : padB s.data.toList k = false := padA_no (by rw [hl]; exact h)
    rw [padS_no hb, hb]
    exact pad_no s k w hs h
  · have h1 : 1 ≤ s.size := by omega
    have h2 : s.size ≤ 999 := by omega
    have h4 : 1 ≤ k := by omega
    have h5 : k ≤ 999 := by omega
    have h3 : allD s.data.toList = true := by
      cases g : allD s.data.toList
      · exact absurd (Or.inr (Or.inr (Or.inl g))) h
      · rfl
    obtain ⟨k, rfl⟩ := Int.eq_ofNat_of_zero_le (show 0 ≤ k by omega)
    have hA : padA s.data.toList (k : Int) = true := padA_yes (by omega) (by omega) h3 h4 h5
    have hB := padB_eq hA
    rw [hl, Int.toNat_natCast] at hB
    by_cases hm : s.size ≤ k
    · rw [show s.size - k = 0 from by omega] at hB
      have hB' : padB s.data.toList (k : Int) = true := hB
      rw [padS_yes hB', hB']
      exact pad_more_calls s k w h1 h2 h3 (by omega) (by omega) hm
    · unfold padS
      rw [hB]
      exact pad_less_calls s k w h1 h2 h3 (by omega) (by omega) (by omega)

end Go.Proofs.YtbhlennolghjmaaDoor

/-
  What the document's Pad answers: for every text and width, in every world.
-/
namespace Go.Proofs.YtbhlennolghjmaaDoor
open Go.RowKit

theorem cons48 (t : ByteArray) : ((⟨#[48]⟩ : ByteArray) ++ t).data.toList = 48 :: t.data.toList := by
  obtain ⟨⟨d⟩⟩ := t
  rw [ByteArray.mk_append_mk]
  simp

end Go.Proofs.YtbhlennolghjmaaDoor
