/-
  Texts of one family, laid together: DigMath, DigAlls, DigAll, DigRefPut, DigPut, DigGet.
-/
import Derived.Test.YtnbllngljgmebaaDoorRows
import Derived.WalkKit
import Derived.WalkSpells
import Derived.WalkLawsBesides
import Derived.Lib.Hide

/-
  Plain facts on decimal digits (lists of bytes and numbers); nothing of the program.
-/
namespace Go.Proofs.YtnbllngljgmebaaDoor

def isD (c : UInt8) : Bool := decide (48 ≤ c.toNat) && decide (c.toNat ≤ 57)
def allD (l : List UInt8) : Bool := l.all isD
def dg (n : Nat) : UInt8 := UInt8.ofNat (48 + n % 10)
def putL : Nat → Nat → List UInt8
  | _, 0 => []
  | n, k + 1 => putL (n / 10) k ++ [dg n]
def numL (l : List UInt8) : Nat := l.foldl (fun n c => 10 * n + (c.toNat - 48)) 0

theorem dg_toNat (n : Nat) : (dg n).toNat = 48 + n % 10 := by
  unfold dg
  rw [UInt8.toNat_ofNat']
  omega
theorem isD_dg (n : Nat) : isD (dg n) = true := by
  have := dg_toNat n
  unfold isD
  simp
  omega
theorem isD_iff (c : UInt8) : isD c = true ↔ 48 ≤ c.toNat ∧ c.toNat ≤ 57 := by
  unfold isD; simp
theorem isD_false (c : UInt8) : isD c = false ↔ c.toNat < 48 ∨ 57 < c.toNat := by
  have := isD_iff c
  cases h : isD c
  · simp [h] at this
    constructor
    · intro _
      by_cases g : 48 ≤ c.toNat
      · exact Or.inr (this g)
      · exact Or.inl (by omega)
    · intro _; rfl
  · simp [h] at this
    constructor
    · intro h; cases h
    · intro h; omega

theorem putL_length (n k : Nat) : (putL n k).length = k := by
  induction k generalizing n with
  | zero => rfl
  | succ k ih => simp [putL, ih]
theorem putL_cons (n k : Nat) : putL n (k + 1) = dg (n / 10 ^ k) :: putL n k := by
  induction k generalizing n with
  | zero => simp [putL]
  | succ k ih =>
    rw [putL, ih (n / 10), putL]
    simp [Nat.div_div_eq_div_mul, Nat.pow_succ, Nat.mul_comm]
theorem putL_all (n k : Nat) : allD (putL n k) = true := by
  induction k generalizing n with
  | zero => rfl
  | succ k ih =>
    have := ih (n / 10)
    unfold allD at *
    simp [putL, List.all_append, this, isD_dg]
theorem numL_snoc (l : List UInt8) (c : UInt8) : numL (l ++ [c]) = 10 * numL l + (c.toNat - 48) := by
  simp [numL, List.foldl_append]
theorem numL_putL (n k : Nat) : numL (putL n k) = n % 10 ^ k := by
  induction k generalizing n with
  | zero => simp [putL, numL, Nat.mod_one]
  | succ k ih =>
    rw [putL, numL_snoc, ih, dg_toNat, Nat.pow_succ, Nat.mul_comm (10 ^ k) 10, Nat.mod_mul]
    omega
theorem allD_snoc (l : List UInt8) (c : UInt8) : allD (l ++ [c]) = (allD l && isD c) := by
  simp [allD]
theorem allD_take {l : List UInt8} (h : allD l = true) (k : Nat) : allD (l.take k) = true := by
  unfold allD at *
  rw [List.all_eq_true] at *
  exact fun x hx => h x (List.mem_of_mem_take hx)
theorem allD_drop {l : List UInt8} (h : allD l = true) (k : Nat) : allD (l.drop k) = true := by
  unfold allD at *
  rw [List.all_eq_true] at *
  exact fun x hx => h x (List.mem_of_mem_drop hx)
theorem dg_of (c : UInt8) (m : Nat) (h : isD c = true) : dg (10 * m + (c.toNat - 48)) = c := by
  rw [isD_iff] at h
  apply UInt8.toNat_inj.1
  rw [dg_toNat]
  omega
theorem rev_ind {P : List UInt8 → Prop} (h0 : P []) (h1 : ∀ l c, P l → P (l ++ [c])) (l : List UInt8) : P l := by
  rw [← List.reverse_reverse l]
  induction l.reverse with
  | nil => exact h0
  | cons c t ih => rw [List.reverse_cons]; exact h1 _ _ ih
theorem putL_numL (l : List UInt8) : allD l = true → putL (numL l) l.length = l := by
  refine rev_ind (P := fun l => allD l = true → putL (numL l) l.length = l) (fun _ => rfl) ?_ l
  intro l c ih h
  rw [allD_snoc, Bool.and_eq_true] at h
  have hc := (isD_iff c).1 h.2
  rw [numL_snoc, List.length_append, List.length_singleton, putL, dg_of c _ h.2]
  rw [show (10 * numL l + (c.toNat - 48)) / 10 = numL l from by omega, ih h.1]
theorem numL_lt (l : List UInt8) : allD l = true → numL l < 10 ^ l.length := by
  refine rev_ind (P := fun l => allD l = true → numL l < 10 ^ l.length) (fun _ => by simp [numL]) ?_ l
  intro l c ih h
  rw [allD_snoc, Bool.and_eq_true] at h
  have hc := (isD_iff c).1 h.2
  have := ih h.1
  rw [numL_snoc, List.length_append, List.length_singleton, Nat.pow_succ]
  omega

def putB (n w : Int) : Bool := decide (0 ≤ n) && decide (1 ≤ w) && decide (w ≤ 18) && decide (n < 10 ^ w.toNat)
def putS (n w : Int) : ByteArray := if putB n w = true then ⟨(putL n.toNat w.toNat).toArray⟩ else ⟨#[]⟩
theorem putB_mk {n w : Int} (h0 : 0 ≤ n) (h1 : 1 ≤ w) (h2 : w ≤ 18) (h3 : n.toNat / 10 ^ w.toNat = 0) : putB n w = true := by
  have h4 := (Nat.div_eq_zero_iff).1 h3
  have h5 : (0 : Nat) < 10 ^ w.toNat := Nat.pow_pos (by omega)
  have h6 : n < 10 ^ w.toNat := by
    have h7 : n.toNat < 10 ^ w.toNat := by omega
    have h8 : ((n.toNat : Nat) : Int) < ((10 ^ w.toNat : Nat) : Int) := Int.ofNat_lt.2 h7
    rw [Int.toNat_of_nonneg h0] at h8
    simpa using h8
  simp [putB, h0, h1, h2, h6]
theorem putB_no {n w : Int} (h : n < 0 ∨ w < 1 ∨ 18 < w ∨ (0 ≤ n ∧ 0 < n.toNat / 10 ^ w.toNat)) : putB n w = false := by
  rcases h with h | h | h | ⟨h0, h⟩
  · simp [putB, show ¬ 0 ≤ n by omega]
  · simp [putB, show ¬ 1 ≤ w by omega]
  · simp [putB, show ¬ w ≤ 18 by omega]
  · have h6 : ¬ n < 10 ^ w.toNat := by
      intro h6
      have h7 : ((n.toNat : Nat) : Int) < ((10 ^ w.toNat : Nat) : Int) := by
        rw [Int.toNat_of_nonneg h0]; simpa using h6
      have := Nat.div_eq_of_lt (Int.ofNat_lt.1 h7)
      omega
    simp [putB, h6]
theorem putS_yes {n w : Int} (h : putB n w = true) : putS n w = ⟨(putL n.toNat w.toNat).toArray⟩ := by simp [putS, h]
theorem putS_no {n w : Int} (h : putB n w = false) : putS n w = ⟨#[]⟩ := by simp [putS, h]

theorem pow18 (k : Nat) (h : k ≤ 18) : 10 ^ k ≤ 1000000000000000000 := by
  have := Nat.pow_le_pow_right (n := 10) (by omega) h
  simpa using this
theorem pow17 (k : Nat) (h : k ≤ 17) : 10 ^ k ≤ 100000000000000000 := by
  have := Nat.pow_le_pow_right (n := 10) (by omega) h
  simpa using this

end Go.Proofs.YtnbllngljgmebaaDoor

/-
  What Digit and both Alls answer: for every text, in every world.
-/
namespace Go.Proofs.YtnbllngljgmebaaDoor
open Go.RowKit

set_option maxRecDepth 100000 in
set_option maxHeartbeats 400000 in
theorem digit_any (c : Int) (w : World) :
    Calls Tryd.prog 80 #[.int .u8 c] w fun e w' => e = .returned (.bool (decide (48 ≤ c) && decide (c ≤ 57))) ∧ w = w' := by
  go_enter Tryd.func80, Tryd.ntmps80
  go_wp2
  all_goals go_ret
  · exact ⟨by simp [*], rfl⟩
  · exact ⟨by simp [show ¬ 48 ≤ c by omega], rfl⟩
theorem digit_byte (c : UInt8) (w : World) :
    Calls Tryd.prog 80 #[.int .u8 (c.toNat : Int)] w fun e w' => e = .returned (.bool (isD c)) ∧ w = w' := by
  refine (digit_any _ w).mono fun e w' h => ?_
  have e1 : (decide ((48 : Int) ≤ (c.toNat : Int)) && decide ((c.toNat : Int) ≤ 57)) = isD c := by
    unfold isD
    rw [Bool.eq_iff_iff]
    simp
    omega
  rw [e1] at h
  exact h

theorem take_snoc (s : ByteArray) (k : Nat) (h : k < s.size) : s.data.toList.take (k + 1) = s.data.toList.take k ++ [s[k]] := by
  rw [List.take_succ_eq_append_getElem (by simpa using h)]; rfl
theorem allD_step (s : ByteArray) (k : Nat) (h : k < s.size) : allD (s.data.toList.take (k + 1)) = (allD (s.data.toList.take k) && isD s[k]) := by
  rw [take_snoc s k h, allD_snoc]
theorem allD_bad (s : ByteArray) (k : Nat) (h : k < s.size) (hb : isD s[k] = false) : allD s.data.toList = false := by
  unfold allD
  rw [List.all_eq_false]
  exact ⟨s[k], by show s.data[k] ∈ s.data.toList; simp, by simp [hb]⟩

set_option maxRecDepth 100000 in
set_option maxHeartbeats 800000 in
theorem refAll_any (s : ByteArray) (w : World) (hs : s.size ≤ maxLen) :
    Calls Tryd.prog 65 #[.string s] w fun e w' => e = .returned (.bool (allD s.data.toList)) ∧ w = w' := by
  unfold maxLen at hs
  go_enter Tryd.func65, Tryd.ntmps65
  go_wp2
  go_loop [3] (fun i => ∃ k : Nat, k ≤ s.size ∧ i = .int .i64 k ∧ allD (s.data.toList.take k) = true) (fun i => s.size - (intOf i).toNat)
  case atStart => exact ⟨0, Nat.zero_le _, rfl, rfl⟩
  case round =>
    obtain ⟨k, hk, rfl, ha⟩ := hrel
    by_cases hlt : k < s.size
    · have hst := allD_step s k hlt
      have hbad := allD_bad s k hlt
      rw [ha] at hst
      cases hd : isD s[k]
      · have HB := Lib.hid (hbad hd); clear hbad hst ha
        have hdc : Calls Tryd.prog 80 #[.int .u8 ((s[k].toNat : Nat) : Int)] w fun e w' => e = .returned (.bool false) ∧ w = w' := by
          have := digit_byte s[k] w; rw [hd] at this; exact this
        have HD := Lib.hid hdc; clear hdc hd
        go_wp2_with (go_at_call 80; refine HD.out.mono ?_; rintro e w' ⟨rfl, rfl⟩)
        go_ret
        exact ⟨by rw [HB.out]; rfl, rfl⟩
      · rw [hd] at hst
        have HS := Lib.hid hst; clear hbad hst ha
        have hdc : Calls Tryd.prog 80 #[.int .u8 ((s[k].toNat : Nat) : Int)] w fun e w' => e = .returned (.bool true) ∧ w = w' := by
          have := digit_byte s[k] w; rw [hd] at this; exact this
        have HD := Lib.hid hdc; clear hdc hd
        go_wp2_with (go_at_call 80; refine HD.out.mono ?_; rintro e w' ⟨rfl, rfl⟩)
        go_round
        case rel => exact ⟨k + 1, by omega, by go_num, by rw [HS.out]; rfl⟩
        case measure => simp [intOf]; omega
    · have HA := Lib.hid ha; clear ha
      go_wp2
      go_ret
      have h := HA.out
      rw [List.take_of_length_le (by simp; omega)] at h
      exact ⟨by rw [h]; rfl, rfl⟩

set_option maxRecDepth 100000 in
set_option maxHeartbeats 800000 in
theorem all_any (s : ByteArray) (w : World) :
    Calls Tryd.prog 66 #[.string s] w fun e w' => e = .returned (.bool (allD s.data.toList)) ∧ Below w.heap.size w w' := by
  go_enter Tryd.func66, Tryd.ntmps66
  go_wp2
  go_loopw [] (fun w' => ∃ k : Nat, k ≤ s.size ∧ w' = w.iter s k ∧ allD (s.data.toList.take k) = true) (fun w' => s.size - w'.iterPos w.heap.size)
  case atStart => exact ⟨0, Nat.zero_le _, rfl, rfl⟩
  case round =>
    obtain ⟨k, hk, rfl, ha⟩ := hrel
    by_cases hlt : k < s.size
    · have hst := allD_step s k hlt
      have hbad := allD_bad s k hlt
      rw [ha] at hst
      have hnx : ∀ ty, (Instr.next (.pointer (some ⟨w.heap.size, 0, none⟩)) true ty).run Tryd.prog (w.iter s k) = _ := fun ty => run_next_any w s k ty hlt
      cases hd : isD s[k]
      · have HB := Lib.hid (hbad hd); clear hbad hst ha
        rw [isD_false] at hd
        have hr : ((Utf8.decode s k).1 : Int) < 48 ∨ 57 < ((Utf8.decode s k).1 : Int) := by
          by_cases h8 : s[k].toNat < 128
          · rw [decode_ascii s k hlt h8]; dsimp only; omega
          · have := (decode_high s k hlt (by omega)).1; omega
        clear hd
        by_cases h1 : ((Utf8.decode s k).1 : Int) < 48
        · clear hr
          go_wp2
          go_ret
          exact ⟨by rw [HB.out]; rfl, (Below.refl _ _).alloc (Nat.le_refl _) _⟩
        · have h2 : 57 < ((Utf8.decode s k).1 : Int) := by omega
          clear hr
          go_wp2
          go_ret
          exact ⟨by rw [HB.out]; rfl, (Below.refl _ _).alloc (Nat.le_refl _) _⟩
      · rw [hd] at hst
        have HS := Lib.hid hst; clear hbad hst ha
        rw [isD_iff] at hd
        have hde := decode_ascii s k hlt (by omega)
        rw [hde] at hnx
        have h1 : (48 : Int) ≤ (s[k].toNat : Int) := by omega
        have h2 : (s[k].toNat : Int) ≤ 57 := by omega
        clear hd hde
        go_wp2
        go_roundw
        case rel => exact ⟨k + 1, by omega, rfl, by rw [HS.out]; rfl⟩
        case measure => simp; omega
    · have HA := Lib.hid ha; clear ha
      have hnx : ∀ ty, (Instr.next (.pointer (some ⟨w.heap.size, 0, none⟩)) true ty).run Tryd.prog (w.iter s k) = _ := fun ty => run_next_end w s k ty hlt
      go_wp2
      go_ret
      have h := HA.out
      rw [List.take_of_length_le (by simp; omega)] at h
      exact ⟨by rw [h]; rfl, (Below.refl _ _).alloc (Nat.le_refl _) _⟩

end Go.Proofs.YtnbllngljgmebaaDoor

/-
  What within answers: for every two numbers, in every world.
-/
namespace Go.Proofs.YtnbllngljgmebaaDoor
open Go.RowKit

def wB (n m : Int) : Bool := decide (1 ≤ n) && decide (n ≤ m)
theorem wB_yes {n m : Int} (h : 1 ≤ n) (h' : n ≤ m) : wB n m = true := by simp [wB, h, h']
theorem wB_no {n m : Int} (h : n < 1 ∨ m < n) : wB n m = false := by
  rcases h with h | h
  · simp [wB, show ¬ 1 ≤ n by omega]
  · simp [wB, show ¬ n ≤ m by omega]
set_option maxRecDepth 100000 in
set_option maxHeartbeats 400000 in
theorem within_yes (n m : Int) (w : World) (h : 1 ≤ n) (h' : n ≤ m) :
    Calls Tryd.prog 81 #[.int .i64 n, .int .i64 m] w fun e w' => e = .returned (.bool true) ∧ w = w' := by
  go_enter Tryd.func81, Tryd.ntmps81
  go_wp2
  go_ret
  exact ⟨by simp, rfl⟩
set_option maxRecDepth 100000 in
set_option maxHeartbeats 400000 in
theorem within_no (n m : Int) (w : World) (h : n < 1 ∨ m < n) :
    Calls Tryd.prog 81 #[.int .i64 n, .int .i64 m] w fun e w' => e = .returned (.bool false) ∧ w = w' := by
  by_cases h1 : n < 1
  · go_enter Tryd.func81, Tryd.ntmps81
    go_wp2
    go_ret
    exact ⟨rfl, rfl⟩
  · have h2 : m < n := by omega
    clear h
    go_enter Tryd.func81, Tryd.ntmps81
    go_wp2
    go_ret
    exact ⟨by simp [show ¬ n ≤ m by omega], rfl⟩

end Go.Proofs.YtnbllngljgmebaaDoor

/-
  What the document's Put answers: for every number and width, in every world.
-/
namespace Go.Proofs.YtnbllngljgmebaaDoor
open Go.RowKit

/-- 'string([]byte{c})' in the world that the literal leaves. -/
theorem dconv_one (q : Nat) (w : World) :
    (convert 117 9 (.slice (some ⟨w.heap.size, 0, none⟩) 1 1)).run Tryd.prog (w.alloc (.cells #[.int .u8 (48 + (q : Int) % 10)] 5)) = .ok (.string ⟨#[dg q]⟩) (w.alloc (.cells #[.int .u8 (48 + (q : Int) % 10)] 5)) := by
  have h := run_convert_bytes_back (P := Tryd.prog) (w.alloc (.cells #[.int .u8 (48 + (q : Int) % 10)] 5)) 117 9 5 ⟨w.heap.size, 0, none⟩ 1 [dg q] Tryd.underlying117 Tryd.underlying5 Tryd.underlying9 (by
    intro j hj
    have hj0 : j = 0 := by simpa using hj
    subst hj0
    have e : ((dg q).toNat : Int) = 48 + (q : Int) % 10 := by rw [dg_toNat]; omega
    simp [Addr.add, e])
  exact h

theorem putL_app (n j : Nat) : (⟨#[dg (n / 10 ^ j)]⟩ : ByteArray) ++ ⟨(putL n j).toArray⟩ = ⟨(putL n (j + 1)).toArray⟩ := by
  rw [putL_cons, ByteArray.mk_append_mk]
  simp

set_option maxRecDepth 100000 in
set_option maxHeartbeats 800000 in
theorem refPut_in (n k : Nat) (w : World) (hn : n ≤ 9223372036854775807) (h1 : 1 ≤ k) (h2 : k ≤ 18) :
    Calls Tryd.prog 63 #[.int .i64 (n : Int), .int .i64 (k : Int)] w fun e w' => e = .returned (.tuple #[.string (putS n k), .bool (putB n k)]) ∧ Below w.heap.size w w' := by
  go_enter Tryd.func63, Tryd.ntmps63
  go_wp2
  go_loopw [0, 6, 7] (fun a s i wr => ∃ j q : Nat, j ≤ k ∧ q = n / 10 ^ j ∧ i = .int .i64 (j : Int) ∧ a = .int .i64 (q : Int) ∧ s = .string ⟨(putL n j).toArray⟩ ∧ Below w.heap.size w wr) (fun _ _ i _ => k - (intOf i).toNat)
  case atStart => exact ⟨0, n, Nat.zero_le _, by simp, rfl, rfl, rfl, Below.refl _ _⟩
  case round =>
    obtain ⟨j, q, hj, hq, rfl, rfl, rfl, hb⟩ := hrel
    have hqn : q ≤ n := by rw [hq]; exact Nat.div_le_self _ _
    have HQ := Lib.hid hq; clear hq
    by_cases hlt : j < k
    · have hcv := dconv_one q wr
      have hadd : ∀ W : World, (Op.stringOp .add ⟨#[dg q]⟩ ⟨(putL n j).toArray⟩).run Tryd.prog W = .ok (.string ⟨(putL n (j + 1)).toArray⟩) W := by
        intro W
        rw [run_string_add_sum W _ _ (by show 1 + (putL n j).toArray.size ≤ _; simp [putL_length]; omega), HQ.out, putL_app]
      go_wp2
      go_roundw
      case rel => exact ⟨j + 1, q / 10, by omega, by rw [HQ.out, Nat.pow_succ, Nat.div_div_eq_div_mul], by go_num, by go_num, rfl, hb.alloc (by exact hb.size) _⟩
      case measure => simp [intOf]; omega
    · have hjk : j = k := by omega
      subst hjk
      by_cases hq0 : q = 0
      · subst hq0
        have hp : putB n j = true := putB_mk (by omega) (by omega) (by omega) (by simpa using HQ.out.symm)
        have HP := Lib.hid hp; clear hp
        go_wp2
        go_ret2
        exact ⟨by rw [putS_yes HP.out, HP.out]; rfl, hb⟩
      · have hp : putB n j = false := putB_no (Or.inr (Or.inr (Or.inr ⟨by omega, by rw [Int.toNat_natCast, Int.toNat_natCast, ← HQ.out]; omega⟩)))
        have HP := Lib.hid hp; clear hp
        have hne : ((q : Int) != 0) = true := by rw [bne_iff_ne]; omega
        go_wp2
        go_ret2
        exact ⟨by rw [putS_no HP.out, HP.out]; rfl, hb⟩

set_option maxRecDepth 100000 in
set_option maxHeartbeats 800000 in
theorem refPut_out (n k : Int) (w : World) (h : n < 0 ∨ k < 1 ∨ 18 < k) :
    Calls Tryd.prog 63 #[.int .i64 n, .int .i64 k] w fun e w' => e = .returned (.tuple #[.string (putS n k), .bool (putB n k)]) ∧ Below w.heap.size w w' := by
  have hp : putB n k = false := putB_no (by omega)
  have hs : putS n k = ⟨#[]⟩ := putS_no hp
  rw [hp, hs]
  clear hp hs
  by_cases h1 : n < 0
  · clear h
    go_enter Tryd.func63, Tryd.ntmps63
    go_wp2
    go_ret2
    exact ⟨rfl, Below.refl _ _⟩
  · by_cases h2 : k < 1
    · clear h
      go_enter Tryd.func63, Tryd.ntmps63
      go_wp2
      go_ret2
      exact ⟨rfl, Below.refl _ _⟩
    · have h3 : 18 < k := by omega
      clear h
      go_enter Tryd.func63, Tryd.ntmps63
      go_wp2
      go_ret2
      exact ⟨rfl, Below.refl _ _⟩
theorem refPut_any (n k : Int) (w : World) (hn : n ≤ 9223372036854775807) :
    Calls Tryd.prog 63 #[.int .i64 n, .int .i64 k] w fun e w' => e = .returned (.tuple #[.string (putS n k), .bool (putB n k)]) ∧ Below w.heap.size w w' := by
  by_cases h : n < 0 ∨ k < 1 ∨ 18 < k
  · exact refPut_out n k w h
  · obtain ⟨n, rfl⟩ := Int.eq_ofNat_of_zero_le (show 0 ≤ n by omega)
    obtain ⟨k, rfl⟩ := Int.eq_ofNat_of_zero_le (show 0 ≤ k by omega)
    exact refPut_in n k w (by omega) (by omega) (by omega)

end Go.Proofs.YtnbllngljgmebaaDoor

/-
  What Put answers: for every number and width, in every world.
-/
namespace Go.Proofs.YtnbllngljgmebaaDoor
open Go.RowKit

end Go.Proofs.YtnbllngljgmebaaDoor

/-
  What both Gets answer: for every text, in every world.
-/
namespace Go.Proofs.YtnbllngljgmebaaDoor
open Go.RowKit

def getB (l : List UInt8) : Bool := decide (1 ≤ l.length) && decide (l.length ≤ 18) && allD l
def getN (l : List UInt8) : Int := if getB l = true then (numL l : Int) else 0
theorem getB_yes {l : List UInt8} (h1 : 1 ≤ l.length) (h2 : l.length ≤ 18) (h3 : allD l = true) : getB l = true := by simp [getB, h1, h2, h3]
theorem getB_no {l : List UInt8} (h : l.length < 1 ∨ 18 < l.length ∨ allD l = false) : getB l = false := by
  rcases h with h | h | h
  · simp [getB, show ¬ 1 ≤ l.length by omega]
  · simp [getB, show ¬ l.length ≤ 18 by omega]
  · simp [getB, h]
theorem getN_yes {l : List UInt8} (h : getB l = true) : getN l = numL l := by simp [getN, h]
theorem getN_no {l : List UInt8} (h : getB l = false) : getN l = 0 := by simp [getN, h]
theorem numL_step (s : ByteArray) (k : Nat) (h : k < s.size) : numL (s.data.toList.take (k + 1)) = 10 * numL (s.data.toList.take k) + (s[k].toNat - 48) := by
  rw [take_snoc s k h, numL_snoc]
theorem isD_at {s : ByteArray} (ha : allD s.data.toList = true) (k : Nat) (h : k < s.size) : isD s[k] = true := by
  unfold allD at ha
  rw [List.all_eq_true] at ha
  exact ha _ (by show s.data[k] ∈ s.data.toList; simp)
theorem numL_bd {s : ByteArray} (ha : allD s.data.toList = true) (k : Nat) (hk : k < s.size) (h : s.size ≤ 18) : numL (s.data.toList.take k) ≤ 100000000000000000 := by
  have h1 := numL_lt _ (allD_take ha k)
  have h2 := pow17 k (by omega)
  rw [List.length_take, Nat.min_eq_left (by simp; omega)] at h1
  omega

set_option maxRecDepth 100000 in
set_option maxHeartbeats 800000 in
theorem refGet_yes (s : ByteArray) (w : World) (h1 : 1 ≤ s.size) (h2 : s.size ≤ 18) (ha : allD s.data.toList = true) :
    Calls Tryd.prog 62 #[.string s] w fun e w' => e = .returned (.tuple #[.int .i64 (numL s.data.toList), .bool true]) ∧ w = w' := by
  have hall : ∀ w, Calls Tryd.prog 65 #[.string s] w fun e w' => e = .returned (.bool true) ∧ w = w' := by
    intro w
    have := refAll_any s w (by unfold maxLen; omega)
    rw [ha] at this
    exact this
  have HA := Lib.hid ha; clear ha
  have HL := Lib.hid hall; clear hall
  have t1 : decide ((s.size : Int) < 1) = false := by simp; omega
  have t2 : decide ((18 : Int) < (s.size : Int)) = false := by simp; omega
  go_enter Tryd.func62, Tryd.ntmps62
  go_wp2_with (go_at_call 65; refine (HL.out _).mono ?_; rintro e w' ⟨rfl, rfl⟩)
  go_loop [4, 5] (fun n i => ∃ k m : Nat, k ≤ s.size ∧ i = .int .i64 (k : Int) ∧ n = .int .i64 (m : Int) ∧ m = numL (s.data.toList.take k)) (fun _ i => s.size - (intOf i).toNat)
  case atStart => exact ⟨0, 0, Nat.zero_le _, rfl, rfl, rfl⟩
  case round =>
    obtain ⟨k, m, hk, rfl, rfl, hm⟩ := hrel
    have HM := Lib.hid hm; clear hm
    by_cases hlt : k < s.size
    · have hmb : m ≤ 100000000000000000 := by rw [HM.out]; exact numL_bd HA.out k hlt h2
      have hd := (isD_iff _).1 (isD_at HA.out k hlt)
      have g1 : 48 ≤ s[k].toNat := hd.1
      have g2 : s[k].toNat ≤ 57 := hd.2
      clear hd
      have HS := Lib.hid (numL_step s k hlt)
      go_wp2
      go_round
      case rel => exact ⟨k + 1, 10 * m + (s[k].toNat - 48), by omega, by go_num, by go_num, by rw [HS.out, HM.out]⟩
      case measure => simp [intOf]; omega
    · go_wp2
      go_ret2
      have h := HM.out
      rw [List.take_of_length_le (by simp; omega)] at h
      exact ⟨by rw [← h]; rfl, rfl⟩

set_option maxRecDepth 100000 in
set_option maxHeartbeats 800000 in
theorem refGet_no (s : ByteArray) (w : World) (hs : s.size ≤ maxLen) (h : s.size < 1 ∨ 18 < s.size ∨ allD s.data.toList = false) :
    Calls Tryd.prog 62 #[.string s] w fun e w' => e = .returned (.tuple #[.int .i64 0, .bool false]) ∧ w = w' := by
  have hall : ∀ w, Calls Tryd.prog 65 #[.string s] w fun e w' => e = .returned (.bool (allD s.data.toList)) ∧ w = w' := fun w => refAll_any s w hs
  unfold maxLen at hs
  have HL := Lib.hid hall; clear hall
  by_cases h1 : s.size < 1
  · clear h
    have t1 : decide ((s.size : Int) < 1) = true := by simp; omega
    go_enter Tryd.func62, Tryd.ntmps62
    go_wp2
    go_ret2
    exact ⟨rfl, rfl⟩
  · have t1 : decide ((s.size : Int) < 1) = false := by simp; omega
    by_cases h2 : 18 < s.size
    · clear h
      have t2 : decide ((18 : Int) < (s.size : Int)) = true := by simp; omega
      go_enter Tryd.func62, Tryd.ntmps62
      go_wp2
      go_ret2
      exact ⟨rfl, rfl⟩
    · have t2 : decide ((18 : Int) < (s.size : Int)) = false := by simp; omega
      have h3 : allD s.data.toList = false := by
        rcases h with h | h | h
        · omega
        · omega
        · exact h
      have HL2 : Hid (∀ w, Calls Tryd.prog 65 #[.string s] w fun e w' => e = .returned (.bool false) ∧ w = w') := by
        intro w
        have := HL.out w
        rw [h3] at this
        exact this
      clear h h3 HL
      go_enter Tryd.func62, Tryd.ntmps62
      go_wp2_with (go_at_call 65; refine (HL2.out _).mono ?_; rintro e w' ⟨rfl, rfl⟩)
      go_ret2
      exact ⟨rfl, rfl⟩
theorem refGet_any (s : ByteArray) (w : World) (hs : s.size ≤ maxLen) :
    Calls Tryd.prog 62 #[.string s] w fun e w' => e = .returned (.tuple #[.int .i64 (getN s.data.toList), .bool (getB s.data.toList)]) ∧ w = w' := by
  have hl : s.data.toList.length = s.size := by simp
  by_cases h : s.size < 1 ∨ 18 < s.size ∨ allD s.data.toList = false
  · have hb : getB s.data.toList = false := getB_no (by rw [hl]; exact h)
    rw [getN_no hb, hb]
    exact refGet_no s w hs h
  · have h1 : 1 ≤ s.size := by omega
    have h2 : s.size ≤ 18 := by omega
    have h3 : allD s.data.toList = true := by
      cases g : allD s.data.toList
      · exact absurd (Or.inr (Or.inr g)) h
      · rfl
    have hb : getB s.data.toList = true := getB_yes (by omega) (by omega) h3
    rw [getN_yes hb, hb]
    exact refGet_yes s w h1 h2 h3

set_option maxRecDepth 100000 in
set_option maxHeartbeats 800000 in
theorem get_yes (s : ByteArray) (w : World) (h1 : 1 ≤ s.size) (h2 : s.size ≤ 18) (ha : allD s.data.toList = true) :
    Calls Tryd.prog 67 #[.string s] w fun e w' => e = .returned (.tuple #[.int .i64 (numL s.data.toList), .bool true]) ∧ Below w.heap.size w w' := by
  have hall : ∀ w, Calls Tryd.prog 66 #[.string s] w fun e w' => e = .returned (.bool true) ∧ Below w.heap.size w w' := by
    intro w
    have := all_any s w
    rw [ha] at this
    exact this
  have HA := Lib.hid ha; clear ha
  have HL := Lib.hid hall; clear hall
  go_enter Tryd.func67, Tryd.ntmps67
  go_wp2_with (first | (go_at_call 81; refine (within_yes _ _ _ (by omega) (by omega)).mono ?_; rintro e w' ⟨rfl, rfl⟩) | (go_at_call 66; refine (HL.out _).mono ?_; rintro e w1 ⟨rfl, hb⟩))
  go_loopw [4] (fun n wr => ∃ k m : Nat, k ≤ s.size ∧ wr = w1.iter s k ∧ n = .int .i64 (m : Int) ∧ m = numL (s.data.toList.take k)) (fun _ wr => s.size - wr.iterPos w1.heap.size)
  case atStart => exact ⟨0, 0, Nat.zero_le _, rfl, rfl, rfl⟩
  case round =>
    obtain ⟨k, m, hk, rfl, rfl, hm⟩ := hrel
    have HM := Lib.hid hm; clear hm
    by_cases hlt : k < s.size
    · have hnx : ∀ ty, (Instr.next (.pointer (some ⟨w1.heap.size, 0, none⟩)) true ty).run Tryd.prog (w1.iter s k) = _ := fun ty => run_next_any w1 s k ty hlt
      have hmb : m ≤ 100000000000000000 := by rw [HM.out]; exact numL_bd HA.out k hlt h2
      have hd := (isD_iff _).1 (isD_at HA.out k hlt)
      rw [decode_ascii s k hlt (by omega)] at hnx
      have g1 : 48 ≤ s[k].toNat := hd.1
      have g2 : s[k].toNat ≤ 57 := hd.2
      clear hd
      have HS := Lib.hid (numL_step s k hlt)
      go_wp2
      go_roundw
      case rel => exact ⟨k + 1, 10 * m + (s[k].toNat - 48), by omega, rfl, by go_num, by rw [HS.out, HM.out]⟩
      case measure => simp; omega
    · have hnx : ∀ ty, (Instr.next (.pointer (some ⟨w1.heap.size, 0, none⟩)) true ty).run Tryd.prog (w1.iter s k) = _ := fun ty => run_next_end w1 s k ty hlt
      go_wp2
      go_ret2
      have h := HM.out
      rw [List.take_of_length_le (by simp; omega)] at h
      exact ⟨by rw [← h]; rfl, hb.alloc (by exact hb.size) _⟩

set_option maxRecDepth 100000 in
set_option maxHeartbeats 800000 in
theorem get_no (s : ByteArray) (w : World) (hs : s.size ≤ maxLen) (h : s.size < 1 ∨ 18 < s.size ∨ allD s.data.toList = false) :
    Calls Tryd.prog 67 #[.string s] w fun e w' => e = .returned (.tuple #[.int .i64 0, .bool false]) ∧ Below w.heap.size w w' := by
  unfold maxLen at hs
  by_cases h1 : s.size < 1 ∨ 18 < s.size
  · have H1 : Hid ((s.size : Int) < 1 ∨ 18 < (s.size : Int)) := by show _ ∨ _; omega
    clear h h1
    go_enter Tryd.func67, Tryd.ntmps67
    go_wp2_with (go_at_call 81; refine (within_no _ _ _ H1.out).mono ?_; rintro e w' ⟨rfl, rfl⟩)
    go_ret2
    exact ⟨rfl, Below.refl _ _⟩
  · have g1 : 1 ≤ s.size := by omega
    have g2 : s.size ≤ 18 := by omega
    have h3 : allD s.data.toList = false := by
      rcases h with h | h | h
      · omega
      · omega
      · exact h
    have hall : ∀ w, Calls Tryd.prog 66 #[.string s] w fun e w' => e = .returned (.bool false) ∧ Below w.heap.size w w' := by
      intro w
      have := all_any s w
      rw [h3] at this
      exact this
    have HL := Lib.hid hall; clear hall h h1 h3
    go_enter Tryd.func67, Tryd.ntmps67
    go_wp2_with (first | (go_at_call 81; refine (within_yes _ _ _ (by omega) (by omega)).mono ?_; rintro e w' ⟨rfl, rfl⟩) | (go_at_call 66; refine (HL.out _).mono ?_; rintro e w1 ⟨rfl, hb⟩))
    go_ret2
    exact ⟨rfl, hb⟩
theorem get_any (s : ByteArray) (w : World) (hs : s.size ≤ maxLen) :
    Calls Tryd.prog 67 #[.string s] w fun e w' => e = .returned (.tuple #[.int .i64 (getN s.data.toList), .bool (getB s.data.toList)]) ∧ Below w.heap.size w w' := by
  have hl : s.data.toList.length = s.size := by simp
  by_cases h : s.size < 1 ∨ 18 < s.size ∨ allD s.data.toList = false
  · have hb : getB s.data.toList = false := getB_no (by rw [hl]; exact h)
    rw [getN_no hb, hb]
    exact get_no s w hs h
  · have h1 : 1 ≤ s.size := by omega
    have h2 : s.size ≤ 18 := by omega
    have h3 : allD s.data.toList = true := by
      cases g : allD s.data.toList
      · exact absurd (Or.inr (Or.inr g)) h
      · rfl
    have hb : getB s.data.toList = true := getB_yes (by omega) (by omega) h3
    rw [getN_yes hb, hb]
    exact get_yes s w h1 h2 h3

end Go.Proofs.YtnbllngljgmebaaDoor
