/-
  Texts of one family, laid together: HexMath, HexDigit, HexPut, HexGet, HexRefGet.
-/
import Derived.Test.YtlkpiapmdflahaaDoorRows
import Derived.WalkKit
import Derived.WalkSpells
import Derived.WalkLawsBesides
import Derived.Lib.Hide
import Derived.Test.YtlkpiapmdflahaaDoorPackBase
import Derived.Deep.AppendLies
import Derived.Laws.BitsLemmas
import Derived.IntWalk

/-
  Plain facts on digits of sixteen (lists of bytes and numbers); nothing of the program.
-/
namespace Go.Proofs.YtlkpiapmdflahaaDoor

def isX (c : UInt8) : Bool := (decide (48 ≤ c.toNat) && decide (c.toNat ≤ 57)) || (decide (65 ≤ c.toNat) && decide (c.toNat ≤ 70))
def xv (c : UInt8) : Nat := if c.toNat ≤ 57 then c.toNat - 48 else c.toNat - 55
def xw (c : UInt8) : Int := if isX c = true then (xv c : Int) else 0
def xW (c : UInt8) : Int := if isX c = true then (xv c : Int) else -1
def xd (n : Nat) : UInt8 := if n < 10 then UInt8.ofNat (48 + n) else UInt8.ofNat (55 + n)
def hputL (l : List UInt8) : List UInt8 := l.flatMap fun c => [xd (c.toNat / 16), xd (c.toNat % 16)]
def hgetL : List UInt8 → List UInt8
  | a :: b :: t => UInt8.ofNat (16 * xv a + xv b) :: hgetL t
  | _ => []
def hbad (l : List UInt8) : Nat := l.findIdx fun c => !isX c
def hgetB (l : List UInt8) : Bool := l.all isX && decide (l.length % 2 = 0)
def hgetS (l : List UInt8) : ByteArray := if hgetB l = true then ⟨(hgetL l).toArray⟩ else ⟨#[]⟩
def hgetI (l : List UInt8) : Int := if hgetB l = true then 0 else (hbad l : Int)

theorem isX_iff (c : UInt8) : isX c = true ↔ (48 ≤ c.toNat ∧ c.toNat ≤ 57) ∨ (65 ≤ c.toNat ∧ c.toNat ≤ 70) := by
  unfold isX; simp
theorem isX_false (c : UInt8) : isX c = false ↔ c.toNat < 48 ∨ (57 < c.toNat ∧ c.toNat < 65) ∨ 70 < c.toNat := by
  have h := isX_iff c
  cases g : isX c
  · simp only [g, Bool.false_eq_true, false_iff] at h
    constructor
    · intro _; omega
    · intro _; rfl
  · have := h.1 g
    constructor
    · intro h; cases h
    · intro h; omega
theorem xw_no {c : UInt8} (h : isX c = false) : xw c = 0 := by simp [xw, h]
theorem xW_no {c : UInt8} (h : isX c = false) : xW c = -1 := by simp [xW, h]
theorem xw_yes {c : UInt8} (h : isX c = true) : xw c = xv c := by simp [xw, h]
theorem xW_yes {c : UInt8} (h : isX c = true) : xW c = xv c := by simp [xW, h]
theorem xv_lt {c : UInt8} (h : isX c = true) : xv c < 16 := by
  rw [isX_iff] at h
  unfold xv
  split <;> omega
theorem xd_toNat (n : Nat) (h : n < 16) : (xd n).toNat = if n < 10 then 48 + n else 55 + n := by
  unfold xd
  split
  · rw [UInt8.toNat_ofNat']; omega
  · rw [UInt8.toNat_ofNat']; omega
theorem xd_isX (n : Nat) (h : n < 16) : isX (xd n) = true := by
  rw [isX_iff, xd_toNat n h]
  split <;> omega
theorem xv_xd (n : Nat) (h : n < 16) : xv (xd n) = n := by
  unfold xv
  rw [xd_toNat n h]
  by_cases g : n < 10
  · simp only [g, if_true]; split <;> omega
  · simp only [g, if_false]; split <;> omega
theorem xd_xv {c : UInt8} (h : isX c = true) : xd (xv c) = c := by
  have hv := xv_lt h
  apply UInt8.toNat_inj.1
  rw [xd_toNat _ hv]
  rw [isX_iff] at h
  unfold xv
  split <;> split <;> omega
theorem xd_inj {c : UInt8} (n : Nat) (h : n < 16) (e : xd n = c) : isX c = true ∧ xv c = n := by
  subst e
  exact ⟨xd_isX n h, xv_xd n h⟩

theorem hputL_length (l : List UInt8) : (hputL l).length = 2 * l.length := by
  induction l with
  | nil => rfl
  | cons c t ih => simp [hputL] at *; omega
theorem hputL_append (a b : List UInt8) : hputL (a ++ b) = hputL a ++ hputL b := by
  simp [hputL]
theorem hputL_snoc (a : List UInt8) (c : UInt8) : hputL (a ++ [c]) = hputL a ++ [xd (c.toNat / 16), xd (c.toNat % 16)] := by
  simp [hputL]
theorem hputL_all (l : List UInt8) : (hputL l).all isX = true := by
  induction l with
  | nil => rfl
  | cons c t ih =>
    have h1 := xd_isX (c.toNat / 16) (by have := c.toNat_lt; omega)
    have h2 := xd_isX (c.toNat % 16) (by omega)
    simp only [hputL, List.flatMap_cons, List.cons_append, List.nil_append, List.all_cons, h1, h2, Bool.true_and] at *
    exact ih
theorem hgetL_hputL (l : List UInt8) : hgetL (hputL l) = l := by
  induction l with
  | nil => rfl
  | cons c t ih =>
    have h1 := xv_xd (c.toNat / 16) (by have := c.toNat_lt; omega)
    have h2 := xv_xd (c.toNat % 16) (by omega)
    simp only [hputL, List.flatMap_cons, List.cons_append, List.nil_append, hgetL] at *
    rw [ih, h1, h2, show 16 * (c.toNat / 16) + c.toNat % 16 = c.toNat by omega]
    simp
theorem hgetB_hputL (l : List UInt8) : hgetB (hputL l) = true := by
  simp [hgetB, hputL_all, hputL_length]
theorem hputL_hgetL : ∀ (l : List UInt8), l.all isX = true → l.length % 2 = 0 → hputL (hgetL l) = l
  | [], _, _ => rfl
  | [_], _, h => by simp at h
  | a :: b :: t, h, h' => by
    simp only [List.all_cons, Bool.and_eq_true] at h
    have ha := xv_lt h.1
    have hb := xv_lt h.2.1
    have ih := hputL_hgetL t h.2.2 (by simp at h'; omega)
    have e : (UInt8.ofNat (16 * xv a + xv b)).toNat = 16 * xv a + xv b := by
      rw [UInt8.toNat_ofNat']; omega
    simp only [hputL, hgetL, List.flatMap_cons, List.cons_append, List.nil_append] at *
    rw [ih, e, show (16 * xv a + xv b) / 16 = xv a by omega, show (16 * xv a + xv b) % 16 = xv b by omega, xd_xv h.1, xd_xv h.2.1]
theorem hgetL_snoc2 : ∀ (l : List UInt8) (a b : UInt8), l.length % 2 = 0 → hgetL (l ++ [a, b]) = hgetL l ++ [UInt8.ofNat (16 * xv a + xv b)]
  | [], _, _, _ => rfl
  | [_], _, _, h => by simp at h
  | x :: y :: t, a, b, h => by
    have ih := hgetL_snoc2 t a b (by simp at h; omega)
    simp only [List.cons_append, hgetL]
    rw [ih]
theorem hgetL_length : ∀ (l : List UInt8), (hgetL l).length = l.length / 2
  | [] => rfl
  | [_] => by simp [hgetL]
  | x :: y :: t => by
    have ih := hgetL_length t
    simp only [hgetL, List.length_cons]
    rw [ih]; omega

theorem hgetB_yes {l : List UInt8} (h : l.all isX = true) (h' : l.length % 2 = 0) : hgetB l = true := by simp [hgetB, h, h']
theorem hgetB_no {l : List UInt8} (h : l.all isX = false ∨ l.length % 2 = 1) : hgetB l = false := by
  rcases h with h | h
  · simp [hgetB, h]
  · simp [hgetB, show ¬ l.length % 2 = 0 by omega]
theorem hgetB_iff {l : List UInt8} (h : hgetB l = true) : l.all isX = true ∧ l.length % 2 = 0 := by
  simpa [hgetB] using h
theorem hgetS_yes {l : List UInt8} (h : hgetB l = true) : hgetS l = ⟨(hgetL l).toArray⟩ := by simp [hgetS, h]
theorem hgetS_no {l : List UInt8} (h : hgetB l = false) : hgetS l = ⟨#[]⟩ := by simp [hgetS, h]
theorem hgetI_yes {l : List UInt8} (h : hgetB l = true) : hgetI l = 0 := by simp [hgetI, h]
theorem hgetI_no {l : List UInt8} (h : hgetB l = false) : hgetI l = hbad l := by simp [hgetI, h]
theorem hbad_le (l : List UInt8) : hbad l ≤ l.length := List.findIdx_le_length
theorem hbad_all {l : List UInt8} (h : l.all isX = true) : hbad l = l.length := by
  unfold hbad
  rw [List.findIdx_eq_length]
  intro x hx
  have := List.all_eq_true.1 h x hx
  simp [this]
theorem hbad_some {l : List UInt8} (h : l.all isX = false) : hbad l < l.length := by
  unfold hbad
  rw [List.findIdx_lt_length]
  rw [List.all_eq_false] at h
  obtain ⟨x, hx, hb⟩ := h
  exact ⟨x, hx, by simpa using hb⟩
theorem hbad_at {l : List UInt8} {k : Nat} (hk : k < l.length) (ha : (l.take k).all isX = true) (hb : isX l[k] = false) : hbad l = k := by
  unfold hbad
  rw [List.findIdx_eq hk]
  refine ⟨by simp [hb], fun j hj => ?_⟩
  have := List.all_eq_true.1 ha l[j] (by rw [List.mem_take_iff_getElem]; exact ⟨j, by omega, rfl⟩)
  simp [this]

end Go.Proofs.YtlkpiapmdflahaaDoor

/-
  What Digit, wrong, Digits and Worth answer: for every byte or text, in every world.
-/
namespace Go.Proofs.YtlkpiapmdflahaaDoor
open Go.RowKit

def xdigits : ByteArray := ⟨#[48, 49, 50, 51, 52, 53, 54, 55, 56, 57, 65, 66, 67, 68, 69, 70]⟩
theorem xdigits_at : ∀ (n : Nat) (h : n < xdigits.size), xdigits[n] = xd n := by decide +kernel

theorem digits_any (w : World) : Calls Tryd.prog 102 #[] w fun e w' => e = .returned (.string xdigits) ∧ w = w' := by
  go_enter Tryd.func102, Tryd.ntmps102
  go_wp2
  go_ret
  exact ⟨rfl, rfl⟩

set_option maxRecDepth 100000 in
set_option maxHeartbeats 400000 in
theorem digit_no (c : UInt8) (w : World) (h : isX c = false) :
    Calls Tryd.prog 97 #[.int .u8 (c.toNat : Int)] w fun e w' => e = .returned (.tuple #[.int .i64 0, .bool false]) ∧ w = w' := by
  rw [isX_false] at h
  have hc := c.toNat_lt
  rcases h with h | ⟨h, h'⟩ | h
  all_goals
    go_enter Tryd.func97, Tryd.ntmps97
    go_wp2
    go_ret2
    exact ⟨rfl, rfl⟩
set_option maxRecDepth 100000 in
set_option maxHeartbeats 400000 in
theorem digit_yes (c : UInt8) (w : World) (h : isX c = true) :
    Calls Tryd.prog 97 #[.int .u8 (c.toNat : Int)] w fun e w' => e = .returned (.tuple #[.int .i64 (xv c : Int), .bool true]) ∧ w = w' := by
  rw [isX_iff] at h
  have hc := c.toNat_lt
  rcases h with ⟨h, h'⟩ | ⟨h, h'⟩
  · have e : ((c.toNat : Int) - 48) = (xv c : Int) := by unfold xv; rw [if_pos h']; omega
    have E := Lib.hid e; clear e
    go_enter Tryd.func97, Tryd.ntmps97
    go_wp2
    go_ret2
    exact ⟨by rw [← E.out]; rfl, rfl⟩
  · have e : ((c.toNat : Int) - 65 + 10) = (xv c : Int) := by unfold xv; rw [if_neg (by omega)]; omega
    have E := Lib.hid e; clear e
    go_enter Tryd.func97, Tryd.ntmps97
    go_wp2
    go_ret2
    exact ⟨by rw [← E.out]; rfl, rfl⟩
theorem hdigit_any (c : UInt8) (w : World) :
    Calls Tryd.prog 97 #[.int .u8 (c.toNat : Int)] w fun e w' => e = .returned (.tuple #[.int .i64 (xw c), .bool (isX c)]) ∧ w = w' := by
  cases h : isX c
  · rw [xw_no h]; exact digit_no c w h
  · rw [xw_yes h]; exact digit_yes c w h

set_option maxRecDepth 100000 in
set_option maxHeartbeats 800000 in
theorem worth_any (c : UInt8) (w : World) :
    Calls Tryd.prog 83 #[.int .u8 (c.toNat : Int)] w fun e w' => e = .returned (.int .i64 (xW c)) ∧ w = w' := by
  go_enter Tryd.func83, Tryd.ntmps83
  go_wp2
  go_loop [3] (fun i => ∃ k : Nat, k ≤ 16 ∧ i = .int .i64 (k : Int) ∧ ∀ j, j < k → xd j ≠ c) (fun i => 16 - (intOf i).toNat)
  case atStart => exact ⟨0, by omega, rfl, by omega⟩
  case round =>
    obtain ⟨k, hk, rfl, ha⟩ := hrel
    have HA := Lib.hid ha; clear ha
    by_cases hlt : k < 16
    · have hsz : k < xdigits.size := hlt
      have hx := xdigits_at k hsz
      by_cases he : xd k = c
      · obtain ⟨h1, h2⟩ := xd_inj k hlt he
        have e : xW c = (k : Int) := by rw [xW_yes h1, h2]
        have E := Lib.hid e; clear e h1 h2
        have t : ((xdigits[k].toNat : Int) == (c.toNat : Int)) = true := by rw [hx, he]; simp
        have HX := Lib.hid hx; clear hx he
        go_wp2_with (go_at_call 102; refine (digits_any _).mono ?_; rintro e w' ⟨rfl, rfl⟩)
        go_ret
        exact ⟨by rw [E.out]; rfl, rfl⟩
      · have t : ((xdigits[k].toNat : Int) == (c.toNat : Int)) = false := by
          rw [hx]
          apply beq_false_of_ne
          intro h
          exact he (UInt8.toNat_inj.1 (by omega))
        have HE := Lib.hid he
        have HX := Lib.hid hx; clear hx he
        go_wp2_with (go_at_call 102; refine (digits_any _).mono ?_; rintro e w' ⟨rfl, rfl⟩)
        go_round
        case rel => exact ⟨k + 1, by omega, by go_num, fun j hj => by
          by_cases g : j = k
          · rw [g]; exact HE.out
          · exact HA.out j (by omega)⟩
        case measure => simp [intOf]; omega
    · have e : xW c = -1 := by
        cases g : isX c
        · exact xW_no g
        · exact absurd (xd_xv g) (HA.out _ (by have := xv_lt g; omega))
      have E := Lib.hid e; clear e
      go_wp2
      go_ret
      exact ⟨by rw [E.out]; rfl, rfl⟩

theorem take_snoc' (s : ByteArray) (k : Nat) (h : k < s.size) : s.data.toList.take (k + 1) = s.data.toList.take k ++ [s[k]] := by
  rw [List.take_succ_eq_append_getElem (by simpa using h)]; rfl
theorem allX_step (s : ByteArray) (k : Nat) (h : k < s.size) (ha : (s.data.toList.take k).all isX = true) (hb : isX s[k] = true) : (s.data.toList.take (k + 1)).all isX = true := by
  rw [take_snoc' s k h, List.all_append, ha]; simp [hb]

set_option maxRecDepth 100000 in
set_option maxHeartbeats 800000 in
theorem wrong_any (s : ByteArray) (w : World) (hs : s.size ≤ maxLen) :
    Calls Tryd.prog 96 #[.string s] w fun e w' => e = .returned (.int .i64 (hbad s.data.toList : Int)) ∧ w = w' := by
  unfold maxLen at hs
  go_enter Tryd.func96, Tryd.ntmps96
  go_wp2
  go_loop [8] (fun i => ∃ k : Nat, k ≤ s.size ∧ i = .int .i64 (k : Int) ∧ (s.data.toList.take k).all isX = true) (fun i => s.size - (intOf i).toNat)
  case atStart => exact ⟨0, Nat.zero_le _, rfl, rfl⟩
  case round =>
    obtain ⟨k, hk, rfl, ha⟩ := hrel
    have HA := Lib.hid ha; clear ha
    by_cases hlt : k < s.size
    · cases hd : isX s[k]
      · have hb : hbad s.data.toList = k := hbad_at (by simpa using hlt) HA.out hd
        have HB := Lib.hid hb; clear hb
        have HD := Lib.hid hd; clear hd
        go_wp2_with (go_at_call 97; refine (digit_no s[k] _ HD.out).mono ?_; rintro e w' ⟨rfl, rfl⟩)
        go_ret
        exact ⟨by rw [HB.out]; rfl, rfl⟩
      · have HD := Lib.hid hd; clear hd
        go_wp2_with (go_at_call 97; refine (digit_yes s[k] _ HD.out).mono ?_; rintro e w' ⟨rfl, rfl⟩)
        go_round
        case rel => exact ⟨k + 1, by omega, by go_num, allX_step s k hlt HA.out HD.out⟩
        case measure => simp [intOf]; omega
    · have hall : s.data.toList.all isX = true := by
        have h := HA.out
        rwa [List.take_of_length_le (by simp; omega)] at h
      have hb : hbad s.data.toList = s.size := by rw [hbad_all hall]; simp
      have HB := Lib.hid hb; clear hb hall
      go_wp2
      go_ret
      exact ⟨by rw [HB.out]; rfl, rfl⟩

end Go.Proofs.YtlkpiapmdflahaaDoor

/-
  What hexa.Put answers: for every text, in every world.
-/
namespace Go.Proofs.YtlkpiapmdflahaaDoor
open Go.RowKit

theorem ix_dig (n : Nat) (h : n < 16) (w : World) : (Instr.index 9 (.string xdigits) (.int .u8 (n : Int))).run Tryd.prog w = .ok (.int .u8 (((xd n).toNat : Nat) : Int)) w := by
  rw [run_index_string (P := Tryd.prog) w 9 xdigits .u8 (n : Int) Tryd.underlying9, dif_pos ⟨by omega, by show _ < ((16 : Nat) : Int); omega⟩]
  rw [xdigits_at]
  rfl
theorem ix_hi (c : UInt8) (w : World) : (Instr.index 9 (.string ⟨#[48, 49, 50, 51, 52, 53, 54, 55, 56, 57, 65, 66, 67, 68, 69, 70]⟩) (.int .u8 ((c.toNat : Int) / 16))).run Tryd.prog w = .ok (.int .u8 (((xd (c.toNat / 16)).toNat : Nat) : Int)) w := by
  have h := ix_dig (c.toNat / 16) (by have := c.toNat_lt; omega) w
  rw [Int.natCast_ediv] at h
  exact h
theorem ix_lo (c : UInt8) (w : World) : (Instr.index 9 (.string ⟨#[48, 49, 50, 51, 52, 53, 54, 55, 56, 57, 65, 66, 67, 68, 69, 70]⟩) (.int .u8 ((c.toNat : Int) % 16))).run Tryd.prog w = .ok (.int .u8 (((xd (c.toNat % 16)).toNat : Nat) : Int)) w := by
  have h := ix_dig (c.toNat % 16) (by omega) w
  rw [Int.natCast_emod] at h
  exact h
theorem and15 (c : UInt8) : bits .and .u8 (c.toNat : Int) 15 = (c.toNat : Int) % 16 := u8_and15 _ (by omega) (by have := c.toNat_lt; omega)

set_option maxRecDepth 100000 in
set_option maxHeartbeats 1600000 in
theorem hput_any (s : ByteArray) (w : World) (hs : s.size ≤ 1000000000) :
    Calls Tryd.prog 87 #[.string s] w fun e w' => e = .returned (.string ⟨(hputL s.data.toList).toArray⟩) ∧ Below w.heap.size w w' := by
  obtain ⟨i0, hi, hz0, hz1, hz2⟩ := info_parts Tryd.infoX8
  go_enter Tryd.func87, Tryd.ntmps87
  go_wp2_with (at_make; refine wpList_make_own _ rfl _ _ 74 rfl w.heap.size 5 i0 (.int .u8 0) 1 Tryd.underlying74 hi hz0 hz1 _ _ _ (2 * s.size) rfl rfl (by omega) ?b2 ?b3 ?b4 ?_)
  case b2 => rw [hz2]; omega
  case b3 => unfold maxLen; omega
  case b4 => exact Nat.le_refl _
  intro w1 hown hg
  have hb1 : Below w.heap.size w w1 := (Below.refl _ _).grown hg (Nat.le_refl _) (by simp)
  clear hg
  have HO := Lib.hid hown; clear hown
  go_wp2
  go_loopw [3, 11] (fun v i wr => ∃ k cap : Nat, ∃ g, k ≤ s.size ∧ i = .int .i64 (k : Int) ∧ v = .slice (some ⟨g, 0, none⟩) (2 * k) cap ∧ wr.ownsRow w.heap.size 5 1 (.slice (some ⟨g, 0, none⟩) (2 * k) cap) (2 * k) ((hputL (s.data.toList.take k)).map xb) ∧ Below w.heap.size w wr) (fun _ i _ => s.size - (intOf i).toNat)
  case atStart => exact ⟨0, 2 * s.size, w.heap.size, Nat.zero_le _, rfl, rfl, HO.out, hb1⟩
  case round =>
    obtain ⟨k, cap, g, hk, rfl, rfl, hown, hb⟩ := hrel
    by_cases hlt : k < s.size
    · have HW := Lib.hid hown; clear hown HO hb1
      have hix := ix_str s k hlt
      have hst : hputL (s.data.toList.take (k + 1)) = hputL (s.data.toList.take k) ++ [xd (s[k].toNat / 16), xd (s[k].toNat % 16)] := by rw [take_snoc' s k hlt, hputL_snoc]
      generalize s[k] = c at hix hst
      have HS := Lib.hid hst; clear hst
      have hhi := ix_hi c
      have hlo := ix_lo c
      have hand := and15 c
      go_wp2
      refine wp_region_noPanic ?_
      refine wp_region_held_drew (S := fun _ => True) (by kernel_rfl) trivial (fun _ => ?_)
      refine give_val (i := 0) (v := ?_) rfl (by kernel_rfl) (by kernel_rfl) (by kernel_rfl) (fun _ _ _ h => h) (by rfl) (fun _ _ => ?_) trivial ?_
      rotate_left
      · (go_simp; try (with_reducible rfl))
      try simp only [Act.put, List.setIfInBounds_toArray, List.set_cons_zero, List.set_cons_succ]
      refine give_val (i := 1) (v := ?_) rfl (by kernel_rfl) (by kernel_rfl) (by kernel_rfl) (fun _ _ _ h => h) (by rfl) (fun _ _ => ?_) trivial ?_
      rotate_left
      · (go_simp; try (with_reducible rfl))
      try simp only [Act.put, List.setIfInBounds_toArray, List.set_cons_zero, List.set_cons_succ]
      refine give_val (i := 2) (v := ?_) rfl (by kernel_rfl) (by kernel_rfl) (by kernel_rfl) (fun _ _ _ h => h) (by rfl) (fun _ _ => ?_) trivial ?_
      rotate_left
      · (go_simp; try (with_reducible rfl))
      try simp only [Act.put, List.setIfInBounds_toArray, List.set_cons_zero, List.set_cons_succ]
      refine give_val (i := 3) (v := ?_) rfl (by kernel_rfl) (by kernel_rfl) (by kernel_rfl) (fun _ _ _ h => h) (by rfl) (fun _ _ => ?_) trivial ?_
      rotate_left
      · (go_simp; try (with_reducible rfl))
      try simp only [Act.put, List.setIfInBounds_toArray, List.set_cons_zero, List.set_cons_succ]
      refine give_val (i := 4) (v := ?_) rfl (by kernel_rfl) (by kernel_rfl) (by kernel_rfl) (fun _ _ _ h => h) (by rfl) (fun _ _ => ?_) trivial ?_
      rotate_left
      · (go_simp; try (with_reducible rfl))
      try simp only [Act.put, List.setIfInBounds_toArray, List.set_cons_zero, List.set_cons_succ]
      refine give_val (i := 5) (v := ?_) rfl (by kernel_rfl) (by kernel_rfl) (by kernel_rfl) (fun _ _ _ h => h) (by rfl) (fun _ _ => ?_) trivial ?_
      rotate_left
      · (go_simp; try (with_reducible rfl))
      try simp only [Act.put, List.setIfInBounds_toArray, List.set_cons_zero, List.set_cons_succ]
      refine give_val (i := 6) (v := ?_) rfl (by kernel_rfl) (by kernel_rfl) (by kernel_rfl) (fun _ _ _ h => h) (by rfl) (fun _ _ => ?_) trivial ?_
      rotate_left
      · (go_simp; try (with_reducible rfl))
      try simp only [Act.put, List.setIfInBounds_toArray, List.set_cons_zero, List.set_cons_succ]
      refine give_val (i := 7) (v := ?_) rfl (by kernel_rfl) (by kernel_rfl) (by kernel_rfl) (fun _ _ _ h => h) (by rfl) (fun _ _ => ?_) trivial ?_
      rotate_left
      · (go_simp; try (with_reducible rfl))
      try simp only [Act.put, List.setIfInBounds_toArray, List.set_cons_zero, List.set_cons_succ]
      refine give_val (i := 8) (v := ?_) rfl (by kernel_rfl) (by kernel_rfl) (by kernel_rfl) (fun _ _ _ h => h) (by rfl) (fun _ _ => ?_) trivial ?_
      rotate_left
      · (go_simp; try (with_reducible rfl))
      try simp only [Act.put, List.setIfInBounds_toArray, List.set_cons_zero, List.set_cons_succ]
      refine give_val (i := 9) (v := ?_) rfl (by kernel_rfl) (by kernel_rfl) (by kernel_rfl) (fun _ _ _ h => h) (by rfl) (fun _ _ => ?_) trivial ?_
      rotate_left
      · (go_simp; try (with_reducible rfl))
      try simp only [Act.put, List.setIfInBounds_toArray, List.set_cons_zero, List.set_cons_succ]
      refine give_val (i := 10) (v := ?_) rfl (by kernel_rfl) (by kernel_rfl) (by kernel_rfl) (fun _ _ _ h => h) (by rfl) (fun _ _ => ?_) trivial ?_
      rotate_left
      · (go_simp; try (with_reducible rfl))
      try simp only [Act.put, List.setIfInBounds_toArray, List.set_cons_zero, List.set_cons_succ]
      refine only (i := 11) rfl (by kernel_rfl) (by rfl) (fun K hK => ?_)
      go_simp
      refine hK.out _ _ trivial ?_
      clear hK
      try simp only [Act.put, List.setIfInBounds_toArray, List.set_cons_zero, List.set_cons_succ]
      refine only (i := 12) rfl (by kernel_rfl) (by rfl) (fun K hK => ?_)
      refine wp_append_lies _ _ _ _ (by rfl) w.heap.size 5 i0 _ 1 1 Tryd.underlying74 hi hz0 hz1 hz2 rfl (by omega) (.slice (some ⟨g, 0, none⟩) (2 * k) cap) (2 * k) _ (by rfl) ((HW.out.alloc _).drew) ⟨wr.heap.size, 0, none⟩ 2 2 [xb (xd (c.toNat / 16)), xb (xd (c.toNat % 16))] (by rfl) (by rfl) (World.news_of_block (cs := #[xb (xd (c.toNat / 16)), xb (xd (c.toNat % 16))]) (t := 5) (fr := (0, 0)) (heap_alloc_new wr _)) (by simp [xb, Value.oneCell']) (by omega) (by unfold maxLen; omega) (by omega) (by have := hb.size; simp; omega) (wr.heap.size + 1) (by simp) ?_
      intro g' cap' w2 hown2 hgrow hat hlt2
      refine hK.out _ _ trivial ?_
      clear hK
      try simp only [Act.put, List.setIfInBounds_toArray, List.set_cons_zero, List.set_cons_succ]
      refine give_val (i := 13) (v := ?_) rfl (by kernel_rfl) (by kernel_rfl) (by kernel_rfl) (fun _ _ _ h => h) (by rfl) (fun _ _ => ?_) trivial ?_
      rotate_left
      · (go_simp; try (with_reducible rfl))
      try simp only [Act.put, List.setIfInBounds_toArray, List.set_cons_zero, List.set_cons_succ]
      refine wpAnyH_done (by kernel_rfl) (NoPanic.normal ?_) _
      have hz := hb.size
      have hb2 : Below w.heap.size w w2 := (((hb.alloc hz _).drew)).grown hgrow (by simp; omega) (by intro q hq; have := own_base HW.out; simp [Value.ownBlock] at hq; omega)
      have HW2 := Lib.hid hown2; clear hown2 hgrow hat hlt2
      go_wp2
      go_roundw
      case rel => exact ⟨k + 1, cap', g', by omega, by go_num, rfl, by rw [HS.out, List.map_append]; exact HW2.out, hb2⟩
      case measure => simp [intOf]; omega
    · have hkn : k = s.size := by omega
      have hcv : (convert 74 9 (.slice (some ⟨g, 0, none⟩) (2 * k) cap)).run Tryd.prog wr = .ok (.string ⟨(hputL s.data.toList).toArray⟩) wr := by
        have hl : hputL (s.data.toList.take k) = hputL s.data.toList := by rw [List.take_of_length_le (by simp; omega)]
        have hlen : (hputL s.data.toList).length = 2 * k := by rw [hputL_length, hkn]; simp
        have h := run_convert_bytes_back (P := Tryd.prog) wr 74 9 5 ⟨g, 0, none⟩ cap (hputL s.data.toList) Tryd.underlying74 Tryd.underlying5 Tryd.underlying9 (by
          intro i hi
          rw [hl] at hown
          have hc := hown.cellAt i (by omega)
          rw [show (⟨g, 0, none⟩ : Addr).add i = ⟨g, i, none⟩ from by rw [Addr.add_lit, Nat.zero_add], hc]
          simp [xb, hi])
        rw [hlen] at h
        exact h
      clear hown hkn HO hb1
      go_wp2
      go_ret
      exact ⟨rfl, hb⟩

end Go.Proofs.YtlkpiapmdflahaaDoor

/-
  What hexa.Get answers: for every text, in every world.
-/
namespace Go.Proofs.YtlkpiapmdflahaaDoor
open Go.RowKit

set_option maxRecDepth 100000 in
set_option maxHeartbeats 800000 in
theorem hget_no (s : ByteArray) (w : World) (hs : s.size ≤ 1000000000) (h : s.data.toList.all isX = false ∨ s.size % 2 = 1) :
    Calls Tryd.prog 71 #[.string s] w fun e w' => e = .returned (.tuple #[.string ⟨#[]⟩, .int .i64 (hbad s.data.toList : Int), .bool false]) ∧ Below w.heap.size w w' := by
  have hwr := fun w => wrong_any s w (by unfold maxLen; omega)
  have hl : s.data.toList.length = s.size := by simp
  cases ha : s.data.toList.all isX
  · have hb := hbad_some ha
    rw [hl] at hb
    generalize hbad s.data.toList = n at hwr hb
    have HW := Lib.hid hwr; clear hwr h ha hl
    go_enter Tryd.func71, Tryd.ntmps71
    go_wp2_with (go_at_call 96; refine (HW.out _).mono ?_; rintro e w' ⟨rfl, rfl⟩)
    go_ret3
    exact ⟨rfl, Below.refl _ _⟩
  · have hodd : s.size % 2 = 1 := by
      rcases h with h | h
      · rw [ha] at h; cases h
      · exact h
    have hb := hbad_all ha
    rw [hl] at hb
    rw [hb] at hwr ⊢
    have HW := Lib.hid hwr
    have t : ((s.size : Int) % 2 == 1) = true := by simp; omega
    clear hwr h ha hl hb hodd
    go_enter Tryd.func71, Tryd.ntmps71
    go_wp2_with (go_at_call 96; refine (HW.out _).mono ?_; rintro e w' ⟨rfl, rfl⟩)
    go_ret3
    exact ⟨rfl, Below.refl _ _⟩

theorem ix_str1 (s : ByteArray) (k : Nat) (h : k + 1 < s.size) (w : World) : (Instr.index 9 (.string s) (.int .i64 ((k : Int) + 1))).run Tryd.prog w = .ok (.int .u8 ((s[k + 1].toNat : Nat) : Int)) w := ix_str s (k + 1) h w
theorem wraps_i64 (n : Int) (h0 : 0 ≤ n) (h1 : n < 2 ^ 62) : IntKind.i64.wrap n = n := by rw [IntKind.wrap_i64]; omega
theorem or_join (p q : Nat) (hp : p ≤ 15) (hq : q ≤ 15) : bits .or .i64 ((p : Int) * 16) (q : Int) = ((16 * p + q : Nat) : Int) := by
  rw [bits_join .i64 62 (by decide) wraps_i64 4 (x := (p : Int) * 16) (y := (q : Int)) (by omega) (by omega) (by omega) (by omega) (by omega) (by omega)]
  omega
theorem isX_at {s : ByteArray} (ha : s.data.toList.all isX = true) (k : Nat) (h : k < s.size) : isX s[k] = true := by
  rw [List.all_eq_true] at ha
  exact ha _ (by show s.data[k] ∈ s.data.toList; simp)
theorem hget_step (s : ByteArray) (k j : Nat) (h : k + 1 < s.size) (hj : 2 * j = k) : hgetL (s.data.toList.take (k + 2)) = hgetL (s.data.toList.take k) ++ [UInt8.ofNat (16 * xv s[k] + xv s[k + 1])] := by
  rw [show k + 2 = (k + 1) + 1 from rfl, take_snoc' s (k + 1) h, take_snoc' s k (by omega), List.append_assoc]
  exact hgetL_snoc2 _ _ _ (by rw [List.length_take, Nat.min_eq_left (by simp; omega)]; omega)

set_option maxRecDepth 100000 in
set_option maxHeartbeats 1600000 in
theorem hget_yes (s : ByteArray) (w : World) (hs : s.size ≤ 1000000000) (ha : s.data.toList.all isX = true) (he : s.size % 2 = 0) :
    Calls Tryd.prog 71 #[.string s] w fun e w' => e = .returned (.tuple #[.string ⟨(hgetL s.data.toList).toArray⟩, .int .i64 0, .bool true]) ∧ Below w.heap.size w w' := by
  obtain ⟨i0, hi, hz0, hz1, hz2⟩ := info_parts Tryd.infoX8
  have hwr : ∀ w, Calls Tryd.prog 96 #[.string s] w fun e w' => e = .returned (.int .i64 (s.size : Int)) ∧ w = w' := by
    intro w
    have h := wrong_any s w (by unfold maxLen; omega)
    rw [hbad_all ha] at h
    simpa using h
  have HW := Lib.hid hwr; clear hwr
  have HA := Lib.hid ha; clear ha
  have HE := Lib.hid he; clear he
  have t : ((s.size : Int) % 2 == 1) = false := by have := HE.out; apply beq_false_of_ne; omega
  go_enter Tryd.func71, Tryd.ntmps71
  go_wp2_with (first | (go_at_call 96; refine (HW.out _).mono ?_; rintro e w' ⟨rfl, rfl⟩) | (at_make; refine wpList_make_own _ rfl _ _ 74 rfl w.heap.size 5 i0 (.int .u8 0) 1 Tryd.underlying74 hi hz0 hz1 _ _ _ (s.size / 2) rfl rfl (by omega) ?b2 ?b3 ?b4 ?_))
  case b2 => rw [hz2]; omega
  case b3 => unfold maxLen; omega
  case b4 => exact Nat.le_refl _
  intro w1 hown hg
  have hb1 : Below w.heap.size w w1 := (Below.refl _ _).grown hg (Nat.le_refl _) (by simp)
  clear hg
  have HO := Lib.hid hown; clear hown
  go_wp2
  go_loopw [6, 7] (fun v i wr => ∃ k j cap g : Nat, k ≤ s.size ∧ i = .int .i64 (k : Int) ∧ v = .slice (some ⟨g, 0, none⟩) j cap ∧ 2 * j = k ∧ wr.ownsRow w.heap.size 5 1 (.slice (some ⟨g, 0, none⟩) j cap) j ((hgetL (s.data.toList.take k)).map xb) ∧ Below w.heap.size w wr) (fun _ i _ => s.size - (intOf i).toNat)
  case atStart => exact ⟨0, 0, s.size / 2, w.heap.size, Nat.zero_le _, rfl, rfl, rfl, HO.out, hb1⟩
  case round =>
    obtain ⟨k, j, cap, g, hk, rfl, rfl, hj, hown, hb⟩ := hrel
    have HJ := Lib.hid hj; clear hj
    by_cases hlt : k < s.size
    · have hlt1 : k + 1 < s.size := by have := HE.out; have := HJ.out; omega
      have HOW := Lib.hid hown; clear hown HO hb1
      have hix0 := ix_str s k hlt
      have hix1 := ix_str1 s k hlt1
      have hst := hget_step s k j hlt1 HJ.out
      have xa := isX_at HA.out k hlt
      have xc := isX_at HA.out (k + 1) hlt1
      generalize s[k] = a at hix0 hst xa
      generalize s[k + 1] = b at hix1 hst xc
      have da := fun w => digit_yes a w xa
      have db := fun w => digit_yes b w xc
      have pa : xv a ≤ 15 := by have := xv_lt xa; omega
      have pb : xv b ≤ 15 := by have := xv_lt xc; omega
      generalize xv a = p at da hst pa
      generalize xv b = q at db hst pb
      have HS := Lib.hid hst; clear hst xa xc
      have DA := Lib.hid da; clear da
      have DB := Lib.hid db; clear db
      go_wp2_with fail
      refine (DA.out _).mono ?_
      rintro e w' ⟨rfl, rfl⟩
      go_wp2_with fail
      refine (DB.out _).mono ?_
      rintro e w' ⟨rfl, rfl⟩
      have hor := or_join p q pa pb
      obtain ⟨r, hr⟩ : ∃ r, r = 16 * p + q := ⟨_, rfl⟩
      rw [← hr] at hor HS
      have hr1 : (r : Int) % 256 = (r : Int) := by omega
      have hr2 : xb (UInt8.ofNat r) = .int .u8 (r : Int) := by unfold xb; rw [UInt8.toNat_ofNat', Nat.mod_eq_of_lt (by omega)]
      have HR := Lib.hid hr2; clear hr2 hr
      have hj5 : j ≤ 1000000000 := by have := HJ.out; omega
      have hbz := hb.size
      go_wp2_with (at_builtin; refine wpList_append_lies _ rfl _ _ _ rfl w.heap.size 5 i0 _ 1 1 Tryd.underlying74 hi hz0 hz1 hz2 rfl (by omega) (.slice (some ⟨g, 0, none⟩) j cap) j _ rfl (HOW.out.alloc _) ⟨wr.heap.size, 0, none⟩ 1 1 [.int .u8 (r : Int)] rfl rfl (World.news_of_block (cs := #[.int .u8 (r : Int)]) (t := 5) (fr := (0, 0)) (heap_alloc_new wr _)) (by simp [Value.oneCell']) (by omega) (by unfold maxLen; omega) (by omega) (by simp; omega) (wr.heap.size + 1) (by simp) ?_; intro g' cap' w2 hown2 hgrow hat hlt2)
      have hb2 : Below w.heap.size w w2 := (hb.alloc hbz _).grown hgrow (by simp; omega) (by intro q hq; have := own_base HOW.out; simp [Value.ownBlock] at hq; omega)
      have HW2 := Lib.hid hown2; clear hown2 hgrow hat hlt2
      go_wp2
      go_roundw
      case rel => exact ⟨k + 2, j + 1, cap', g', by omega, by go_num, rfl, by have := HJ.out; omega, by rw [HS.out, List.map_append]; have h := HW2.out; rw [← HR.out] at h; exact h, hb2⟩
      case measure => simp [intOf]; omega
    · have hcv : (convert 74 9 (.slice (some ⟨g, 0, none⟩) j cap)).run Tryd.prog wr = .ok (.string ⟨(hgetL s.data.toList).toArray⟩) wr := by
        have hl : hgetL (s.data.toList.take k) = hgetL s.data.toList := by rw [List.take_of_length_le (by simp; omega)]
        have hlen : (hgetL s.data.toList).length = j := by rw [hgetL_length]; have := HJ.out; simp; omega
        have h := run_convert_bytes_back (P := Tryd.prog) wr 74 9 5 ⟨g, 0, none⟩ cap (hgetL s.data.toList) Tryd.underlying74 Tryd.underlying5 Tryd.underlying9 (by
          intro i hi
          rw [hl] at hown
          have hc := hown.cellAt i (by omega)
          rw [show (⟨g, 0, none⟩ : Addr).add i = ⟨g, i, none⟩ from by rw [Addr.add_lit, Nat.zero_add], hc]
          simp [xb, hi])
        rw [hlen] at h
        exact h
      clear hown HO hb1
      go_wp2
      go_ret3
      exact ⟨rfl, hb⟩

theorem hget_any (s : ByteArray) (w : World) (hs : s.size ≤ 1000000000) :
    Calls Tryd.prog 71 #[.string s] w fun e w' => e = .returned (.tuple #[.string (hgetS s.data.toList), .int .i64 (hgetI s.data.toList), .bool (hgetB s.data.toList)]) ∧ Below w.heap.size w w' := by
  have hl : s.data.toList.length = s.size := by simp
  by_cases h : s.data.toList.all isX = true ∧ s.size % 2 = 0
  · have hb : hgetB s.data.toList = true := hgetB_yes h.1 (by rw [hl]; exact h.2)
    rw [hgetS_yes hb, hgetI_yes hb, hb]
    exact hget_yes s w hs h.1 h.2
  · have h' : s.data.toList.all isX = false ∨ s.size % 2 = 1 := by
      cases g : s.data.toList.all isX
      · exact Or.inl rfl
      · exact Or.inr (by have : ¬ s.size % 2 = 0 := fun e => h ⟨g, e⟩; omega)
    have hb : hgetB s.data.toList = false := hgetB_no (by rw [hl]; exact h')
    rw [hgetS_no hb, hgetI_no hb, hb]
    exact hget_no s w hs h'

end Go.Proofs.YtlkpiapmdflahaaDoor

/-
  What the document's Get answers: for every text, in every world.
-/
namespace Go.Proofs.YtlkpiapmdflahaaDoor
open Go.RowKit

theorem worth_no (c : UInt8) (w : World) (h : isX c = false) : Calls Tryd.prog 83 #[.int .u8 (c.toNat : Int)] w fun e w' => e = .returned (.int .i64 (-1)) ∧ w = w' := by
  have := worth_any c w
  rw [xW_no h] at this
  exact this
theorem worth_yes (c : UInt8) (w : World) (h : isX c = true) : Calls Tryd.prog 83 #[.int .u8 (c.toNat : Int)] w fun e w' => e = .returned (.int .i64 (xv c : Int)) ∧ w = w' := by
  have := worth_any c w
  rw [xW_yes h] at this
  exact this

set_option maxRecDepth 100000 in
set_option maxHeartbeats 3200000 in
theorem hrefGet_any (s : ByteArray) (w : World) (hs : s.size ≤ 1000000000) :
    Calls Tryd.prog 53 #[.string s] w fun e w' => e = .returned (.tuple #[.string (hgetS s.data.toList), .int .i64 (hgetI s.data.toList), .bool (hgetB s.data.toList)]) ∧ Below w.heap.size w w' := by
  obtain ⟨i0, hi, hz0, hz1, hz2⟩ := info_parts Tryd.infoX8
  go_enter Tryd.func53, Tryd.ntmps53
  go_wp2
  go_loop [5] (fun i => ∃ k : Nat, k ≤ s.size ∧ i = .int .i64 (k : Int) ∧ (s.data.toList.take k).all isX = true) (fun i => s.size - (intOf i).toNat)
  case atStart => exact ⟨0, Nat.zero_le _, rfl, rfl⟩
  case round =>
    obtain ⟨k, hk, rfl, ha⟩ := hrel
    have HA := Lib.hid ha; clear ha
    by_cases hlt : k < s.size
    · cases hd : isX s[k]
      · have hb : hbad s.data.toList = k := hbad_at (by simpa using hlt) HA.out hd
        have hg : hgetB s.data.toList = false := hgetB_no (Or.inl (by rw [List.all_eq_false]; exact ⟨s[k], by show s.data[k] ∈ s.data.toList; simp, by simp [hd]⟩))
        have HG := Lib.hid hg; clear hg
        have HB := Lib.hid hb; clear hb
        have HD := Lib.hid hd; clear hd
        go_wp2_with (go_at_call 83; refine (worth_no s[k] _ HD.out).mono ?_; rintro e w' ⟨rfl, rfl⟩)
        go_ret3
        exact ⟨by rw [hgetS_no HG.out, hgetI_no HG.out, HG.out, HB.out]; rfl, Below.refl _ _⟩
      · have HD := Lib.hid hd; clear hd
        have hv : (0 : Int) ≤ (xv s[k] : Int) := by omega
        go_wp2_with (go_at_call 83; refine (worth_yes s[k] _ HD.out).mono ?_; rintro e w' ⟨rfl, rfl⟩)
        go_round
        case rel => exact ⟨k + 1, by omega, by go_num, allX_step s k hlt HA.out HD.out⟩
        case measure => simp [intOf]; omega
    · have hall : s.data.toList.all isX = true := by
        have h := HA.out
        rwa [List.take_of_length_le (by simp; omega)] at h
      have HALL := Lib.hid hall; clear hall HA
      have hkn : k = s.size := by omega
      subst hkn
      have hl : s.data.toList.length = s.size := by simp
      have HL := Lib.hid hl; clear hl
      by_cases hodd : s.size % 2 = 1
      · have t : ((s.size : Int) % 2 == 1) = true := by simp; omega
        have hg : hgetB s.data.toList = false := hgetB_no (Or.inr (by rw [HL.out]; exact hodd))
        have HG := Lib.hid hg; clear hg
        clear hodd
        go_wp2
        go_ret3
        exact ⟨by rw [hgetS_no HG.out, hgetI_no HG.out, HG.out, hbad_all HALL.out, HL.out]; rfl, Below.refl _ _⟩
      · have t : ((s.size : Int) % 2 == 1) = false := by apply beq_false_of_ne; omega
        have he : s.size % 2 = 0 := by omega
        have HE := Lib.hid he; clear he hodd
        have hg : hgetB s.data.toList = true := hgetB_yes HALL.out (by rw [HL.out]; exact HE.out)
        have HG := Lib.hid hg; clear hg
        have HO : Hid ((w.alloc (.cells #[] 5)).ownsRow w.heap.size 5 1 (.slice (some ⟨w.heap.size, 0, none⟩) 0 0) 0 []) := World.ownsRow_lit w #[] 0 (Nat.le_refl _) (by unfold maxLen; omega) rfl
        go_wp2
        go_loopw [6, 7] (fun v i wr => ∃ k j cap g : Nat, k ≤ s.size ∧ i = .int .i64 (k : Int) ∧ v = .slice (some ⟨g, 0, none⟩) j cap ∧ 2 * j = k ∧ wr.ownsRow w.heap.size 5 1 (.slice (some ⟨g, 0, none⟩) j cap) j ((hgetL (s.data.toList.take k)).map xb) ∧ Below w.heap.size w wr) (fun _ i _ => s.size - (intOf i).toNat)
        case atStart => exact ⟨0, 0, 0, w.heap.size, Nat.zero_le _, rfl, rfl, rfl, HO.out, (Below.refl _ _).alloc (Nat.le_refl _) _⟩
        case round =>
          obtain ⟨k, j, cap, g, hk, rfl, rfl, hj, hown, hb⟩ := hrel
          have HJ := Lib.hid hj; clear hj
          by_cases hlt : k < s.size
          · have hlt1 : k + 1 < s.size := by have := HE.out; have := HJ.out; omega
            have HOW := Lib.hid hown; clear hown HO
            have hix0 := ix_str s k hlt
            have hix1 := ix_str1 s k hlt1
            have hst := hget_step s k j hlt1 HJ.out
            have xa := isX_at HALL.out k hlt
            have xc := isX_at HALL.out (k + 1) hlt1
            generalize s[k] = a at hix0 hst xa
            generalize s[k + 1] = b at hix1 hst xc
            have da := fun w => worth_yes a w xa
            have db := fun w => worth_yes b w xc
            have pa : xv a ≤ 15 := by have := xv_lt xa; omega
            have pb : xv b ≤ 15 := by have := xv_lt xc; omega
            generalize xv a = p at da hst pa
            generalize xv b = q at db hst pb
            have HS := Lib.hid hst; clear hst xa xc
            have DA := Lib.hid da; clear da
            have DB := Lib.hid db; clear db
            obtain ⟨r, hr⟩ : ∃ r, r = 16 * p + q := ⟨_, rfl⟩
            rw [← hr] at HS
            have hr2 : xb (UInt8.ofNat r) = .int .u8 (r : Int) := by unfold xb; rw [UInt8.toNat_ofNat', Nat.mod_eq_of_lt (by omega)]
            have HR := Lib.hid hr2; clear hr2
            have hj5 : j ≤ 1000000000 := by have := HJ.out; omega
            have hbz := hb.size
            have w1 : IntKind.i64.wrap (16 * (p : Int)) = 16 * (p : Int) := IntWalk.i64_in _ (by omega)
            have w2 : IntKind.i64.wrap ((k : Int) + 1) = (k : Int) + 1 := IntWalk.i64_in _ (by omega)
            have w3 : IntKind.i64.wrap (16 * (p : Int) + (q : Int)) = (r : Int) := by rw [IntWalk.i64_in _ (by omega)]; omega
            have w4 : IntKind.u8.wrap (r : Int) = (r : Int) := IntWalk.u8_in _ (by omega)
            clear hr
            go_wp2
            refine wp_region_noPanic ?_
            refine wp_region_held_drew (S := fun _ => True) (by kernel_rfl) trivial (fun _ => ?_)
            refine give_val (i := 0) (v := ?_) rfl (by kernel_rfl) (by kernel_rfl) (by kernel_rfl) (fun _ _ _ h => h) (by rfl) (fun _ _ => ?_) trivial ?_
            rotate_left
            · (go_simp; try (with_reducible rfl))
            try simp only [Act.put, List.setIfInBounds_toArray, List.set_cons_zero, List.set_cons_succ]
            refine give_val (i := 1) (v := ?_) rfl (by kernel_rfl) (by kernel_rfl) (by kernel_rfl) (fun _ _ _ h => h) (by rfl) (fun _ _ => ?_) trivial ?_
            rotate_left
            · (go_simp; try (with_reducible rfl))
            try simp only [Act.put, List.setIfInBounds_toArray, List.set_cons_zero, List.set_cons_succ]
            refine give_val (i := 2) (v := ?_) rfl (by kernel_rfl) (by kernel_rfl) (by kernel_rfl) (fun _ _ _ h => h) (by rfl) (fun _ _ => ?_) trivial ?_
            rotate_left
            · (go_simp; try (with_reducible rfl))
            try simp only [Act.put, List.setIfInBounds_toArray, List.set_cons_zero, List.set_cons_succ]
            refine give_val (i := 3) (v := ?_) rfl (by kernel_rfl) (by kernel_rfl) (by kernel_rfl) (fun _ _ _ h => h) (by rfl) (fun _ _ => ?_) trivial ?_
            rotate_left
            · (go_simp; try (with_reducible rfl))
            try simp only [Act.put, List.setIfInBounds_toArray, List.set_cons_zero, List.set_cons_succ]
            refine give_call (i := 4) 83 #[.int .u8 (a.toNat : Int)] rfl (by kernel_rfl) (by kernel_rfl) (by kernel_rfl) (fun _ _ _ h => h) (by rfl) (fun u hu => DA.out _) (fun _ _ => ?_) trivial ?_
            · (go_simp; try (with_reducible rfl))
            try simp only [Act.put, List.setIfInBounds_toArray, List.set_cons_zero, List.set_cons_succ]
            refine give_val (i := 5) (v := ?_) rfl (by kernel_rfl) (by kernel_rfl) (by kernel_rfl) (fun _ _ _ h => h) (by rfl) (fun _ _ => ?_) trivial ?_
            rotate_left
            · (go_simp; try (with_reducible rfl))
            try simp only [Act.put, List.setIfInBounds_toArray, List.set_cons_zero, List.set_cons_succ]
            refine give_val (i := 6) (v := ?_) rfl (by kernel_rfl) (by kernel_rfl) (by kernel_rfl) (fun _ _ _ h => h) (by rfl) (fun _ _ => ?_) trivial ?_
            rotate_left
            · (go_simp; try (with_reducible rfl))
            try simp only [Act.put, List.setIfInBounds_toArray, List.set_cons_zero, List.set_cons_succ]
            refine give_val (i := 7) (v := ?_) rfl (by kernel_rfl) (by kernel_rfl) (by kernel_rfl) (fun _ _ _ h => h) (by rfl) (fun _ _ => ?_) trivial ?_
            rotate_left
            · (go_simp; try (with_reducible rfl))
            try simp only [Act.put, List.setIfInBounds_toArray, List.set_cons_zero, List.set_cons_succ]
            refine give_val (i := 8) (v := ?_) rfl (by kernel_rfl) (by kernel_rfl) (by kernel_rfl) (fun _ _ _ h => h) (by rfl) (fun _ _ => ?_) trivial ?_
            rotate_left
            · (go_simp; try (with_reducible rfl))
            try simp only [Act.put, List.setIfInBounds_toArray, List.set_cons_zero, List.set_cons_succ]
            refine give_val (i := 9) (v := ?_) rfl (by kernel_rfl) (by kernel_rfl) (by kernel_rfl) (fun _ _ _ h => h) (by rfl) (fun _ _ => ?_) trivial ?_
            rotate_left
            · (go_simp; try (with_reducible rfl))
            try simp only [Act.put, List.setIfInBounds_toArray, List.set_cons_zero, List.set_cons_succ]
            refine give_call (i := 10) 83 #[.int .u8 (b.toNat : Int)] rfl (by kernel_rfl) (by kernel_rfl) (by kernel_rfl) (fun _ _ _ h => h) (by rfl) (fun u hu => DB.out _) (fun _ _ => ?_) trivial ?_
            · (go_simp; try (with_reducible rfl))
            try simp only [Act.put, List.setIfInBounds_toArray, List.set_cons_zero, List.set_cons_succ]
            refine give_val (i := 11) (v := ?_) rfl (by kernel_rfl) (by kernel_rfl) (by kernel_rfl) (fun _ _ _ h => h) (by rfl) (fun _ _ => ?_) trivial ?_
            rotate_left
            · (go_simp; try (with_reducible rfl))
            try simp only [Act.put, List.setIfInBounds_toArray, List.set_cons_zero, List.set_cons_succ]
            refine give_val (i := 12) (v := ?_) rfl (by kernel_rfl) (by kernel_rfl) (by kernel_rfl) (fun _ _ _ h => h) (by rfl) (fun _ _ => ?_) trivial ?_
            rotate_left
            · (go_simp; try (with_reducible rfl))
            try simp only [Act.put, List.setIfInBounds_toArray, List.set_cons_zero, List.set_cons_succ]
            refine only (i := 13) rfl (by kernel_rfl) (by rfl) (fun K hK => ?_)
            go_simp
            refine hK.out _ _ trivial ?_
            clear hK
            try simp only [Act.put, List.setIfInBounds_toArray, List.set_cons_zero, List.set_cons_succ]
            refine only (i := 14) rfl (by kernel_rfl) (by rfl) (fun K hK => ?_)
            refine wp_append_lies _ _ _ _ (by rfl) w.heap.size 5 i0 _ 1 1 Tryd.underlying74 hi hz0 hz1 hz2 rfl (by omega) (.slice (some ⟨g, 0, none⟩) j cap) j _ (by rfl) ((HOW.out.alloc _).drew) ⟨wr.heap.size, 0, none⟩ 1 1 [.int .u8 (r : Int)] (by rfl) (by rfl) (World.news_of_block (cs := #[.int .u8 (r : Int)]) (t := 5) (fr := (0, 0)) (heap_alloc_new wr _)) (by simp [Value.oneCell']) (by omega) (by unfold maxLen; omega) (by omega) (by simp; omega) (wr.heap.size + 1) (by simp) ?_
            intro g' cap' w2 hown2 hgrow hat hlt2
            refine hK.out _ _ trivial ?_
            clear hK
            try simp only [Act.put, List.setIfInBounds_toArray, List.set_cons_zero, List.set_cons_succ]
            refine give_val (i := 15) (v := ?_) rfl (by kernel_rfl) (by kernel_rfl) (by kernel_rfl) (fun _ _ _ h => h) (by rfl) (fun _ _ => ?_) trivial ?_
            rotate_left
            · (go_simp; try (with_reducible rfl))
            try simp only [Act.put, List.setIfInBounds_toArray, List.set_cons_zero, List.set_cons_succ]
            refine wpAnyH_done (by kernel_rfl) (NoPanic.normal ?_) _
            have hb2 : Below w.heap.size w w2 := (((hb.alloc hbz _).drew)).grown hgrow (by simp; omega) (by intro q hq; have := own_base HOW.out; simp [Value.ownBlock] at hq; omega)
            have HW2 := Lib.hid hown2; clear hown2 hgrow hat hlt2
            go_wp2
            go_roundw
            case rel => exact ⟨k + 2, j + 1, cap', g', by omega, by go_num, rfl, by have := HJ.out; omega, by rw [HS.out, List.map_append]; have h := HW2.out; rw [← HR.out] at h; exact h, hb2⟩
            case measure => simp [intOf]; omega
          · have hcv : (convert 74 9 (.slice (some ⟨g, 0, none⟩) j cap)).run Tryd.prog wr = .ok (.string ⟨(hgetL s.data.toList).toArray⟩) wr := by
              have hl : hgetL (s.data.toList.take k) = hgetL s.data.toList := by rw [List.take_of_length_le (by simp; omega)]
              have hlen : (hgetL s.data.toList).length = j := by rw [hgetL_length]; have := HJ.out; simp; omega
              have h := run_convert_bytes_back (P := Tryd.prog) wr 74 9 5 ⟨g, 0, none⟩ cap (hgetL s.data.toList) Tryd.underlying74 Tryd.underlying5 Tryd.underlying9 (by
                intro i hi
                rw [hl] at hown
                have hc := hown.cellAt i (by omega)
                rw [show (⟨g, 0, none⟩ : Addr).add i = ⟨g, i, none⟩ from by rw [Addr.add_lit, Nat.zero_add], hc]
                simp [xb, hi])
              rw [hlen] at h
              exact h
            clear hown HO
            go_wp2
            go_ret3
            exact ⟨by rw [hgetS_yes HG.out, hgetI_yes HG.out, HG.out]; rfl, hb⟩

end Go.Proofs.YtlkpiapmdflahaaDoor
