/-
  Texts of one family, laid together: BerMath, BerSmall, BerPut, BerGet, BerRefGet.
-/
import Derived.Test.YtnbllngljgmebaaDoorPackBase

/-
  Lengths behind tags: which bytes a length has, and which length stands in bytes; put and got undo each other, bytes compare as lengths do, and no length's bytes begin another one's. (No program is named here.)
-/
namespace Go.Proofs.YtnbllngljgmebaaDoor

def berSz (n : Nat) : Nat := if n < 128 then 1 else if n < 256 then 2 else 3
def berL (n : Nat) : List UInt8 := if n < 128 then [UInt8.ofNat n] else if n < 256 then [129, UInt8.ofNat n] else [130, UInt8.ofNat (n / 256), UInt8.ofNat (n % 256)]
/-- What three bytes say that stand there, the second and the third one perhaps not. -/
def berRead (p a : Nat) (ob oc : Option Nat) : Nat × Nat × Nat :=
  if a < 128 then (a, p + 1, 0)
  else if a = 129 then (match ob with | none => (0, 0, 2) | some b => if b < 128 then (0, 0, 14) else (b, p + 2, 0))
  else if a = 130 then (match ob, oc with | some b, some c => if b = 0 then (0, 0, 14) else (256 * b + c, p + 3, 0) | _, _ => (0, 0, 2))
  else (0, 0, 14)
/-- The length, the place behind it, an error. -/
def berGet (l : List UInt8) (p : Nat) : Nat × Nat × Nat :=
  match l[p]? with
  | none => (0, 0, 2)
  | some a => berRead p a.toNat ((l[p + 1]?).map UInt8.toNat) ((l[p + 2]?).map UInt8.toNat)

theorem berL_one {n : Nat} (h : n < 128) : berL n = [UInt8.ofNat n] := by unfold berL; rw [if_pos h]
theorem berL_two {n : Nat} (h : 128 ≤ n) (h2 : n < 256) : berL n = [129, UInt8.ofNat n] := by unfold berL; rw [if_neg (by omega), if_pos h2]
theorem berL_three {n : Nat} (h : 256 ≤ n) : berL n = [130, UInt8.ofNat (n / 256), UInt8.ofNat (n % 256)] := by unfold berL; rw [if_neg (by omega), if_neg (by omega)]
theorem berL_length (n : Nat) : (berL n).length = berSz n := by
  unfold berL berSz
  split
  · rfl
  · split <;> rfl
theorem berSz_one {n : Nat} (h : n < 128) : berSz n = 1 := by unfold berSz; rw [if_pos h]
theorem berSz_two {n : Nat} (h : 128 ≤ n) (h2 : n < 256) : berSz n = 2 := by unfold berSz; rw [if_neg (by omega), if_pos h2]
theorem berSz_three {n : Nat} (h : 256 ≤ n) : berSz n = 3 := by unfold berSz; rw [if_neg (by omega), if_neg (by omega)]
theorem berSz_le (n : Nat) : 1 ≤ berSz n ∧ berSz n ≤ 3 := by
  unfold berSz
  split
  · omega
  · split <;> omega

theorem berGet_cut {l : List UInt8} {p : Nat} (h : l.length ≤ p) : berGet l p = (0, 0, 2) := by unfold berGet; rw [List.getElem?_eq_none h]
theorem berGet_at {l : List UInt8} {p : Nat} (a : UInt8) (h : l[p]? = some a) : berGet l p = berRead p a.toNat ((l[p + 1]?).map UInt8.toNat) ((l[p + 2]?).map UInt8.toNat) := by unfold berGet; rw [h]
theorem berRead_one {p a : Nat} (ob oc : Option Nat) (h : a < 128) : berRead p a ob oc = (a, p + 1, 0) := by unfold berRead; rw [if_pos h]
theorem berRead_no {p a : Nat} (ob oc : Option Nat) (h : a = 128 ∨ 130 < a) : berRead p a ob oc = (0, 0, 14) := by
  unfold berRead
  rw [if_neg (by omega), if_neg (by omega), if_neg (by omega)]
theorem berRead_cut1 {p : Nat} (oc : Option Nat) : berRead p 129 none oc = (0, 0, 2) := rfl
theorem berRead_bad1 {p b : Nat} (oc : Option Nat) (h : b < 128) : berRead p 129 (some b) oc = (0, 0, 14) := by
  show (if b < 128 then _ else _) = _
  rw [if_pos h]
theorem berRead_two {p b : Nat} (oc : Option Nat) (h : 128 ≤ b) : berRead p 129 (some b) oc = (b, p + 2, 0) := by
  show (if b < 128 then _ else _) = _
  rw [if_neg (by omega)]
theorem berRead_cut2 {p : Nat} (ob : Option Nat) : berRead p 130 ob none = (0, 0, 2) := by cases ob <;> rfl
theorem berRead_cut3 {p : Nat} (oc : Option Nat) : berRead p 130 none oc = (0, 0, 2) := by cases oc <;> rfl
theorem berRead_bad2 {p c : Nat} : berRead p 130 (some 0) (some c) = (0, 0, 14) := rfl
theorem berRead_three {p b c : Nat} (h : 1 ≤ b) : berRead p 130 (some b) (some c) = (256 * b + c, p + 3, 0) := by
  show (if b = 0 then _ else _) = _
  rw [if_neg (by omega)]

/-- With an error nothing is told; without one the length is one that there is. -/
theorem berRead_err {p a : Nat} {ob oc : Option Nat} (h : (berRead p a ob oc).2.2 ≠ 0) : (berRead p a ob oc).1 = 0 ∧ (berRead p a ob oc).2.1 = 0 := by
  by_cases h1 : a < 128
  · rw [berRead_one _ _ h1] at h; exact absurd rfl h
  by_cases h2 : a = 129
  · subst h2
    cases ob with
    | none => exact ⟨rfl, rfl⟩
    | some b =>
      by_cases hb : b < 128
      · rw [berRead_bad1 _ hb]; exact ⟨rfl, rfl⟩
      · rw [berRead_two _ (by omega)] at h; exact absurd rfl h
  by_cases h3 : a = 130
  · subst h3
    cases ob with
    | none => rw [berRead_cut3]; exact ⟨rfl, rfl⟩
    | some b =>
      cases oc with
      | none => exact ⟨rfl, rfl⟩
      | some c =>
        by_cases hb : b = 0
        · subst hb; exact ⟨rfl, rfl⟩
        · rw [berRead_three (by omega)] at h; exact absurd rfl h
  rw [berRead_no _ _ (by omega)]
  exact ⟨rfl, rfl⟩
theorem berGet_err {l : List UInt8} {p : Nat} (h : (berGet l p).2.2 ≠ 0) : (berGet l p).1 = 0 ∧ (berGet l p).2.1 = 0 := by
  unfold berGet at *
  split at h
  · exact ⟨rfl, rfl⟩
  · exact berRead_err h

/-- A length that is put is got. -/
theorem berGet_back {n : Nat} (x y : List UInt8) (h : n < 65536) : berGet (x ++ berL n ++ y) x.length = (n, x.length + (berL n).length, 0) := by
  by_cases h1 : n < 128
  · rw [berL_one h1, List.append_assoc]
    rw [berGet_at (UInt8.ofNat n) (by simp), ofNat_val (by omega), berRead_one _ _ h1]
    rfl
  by_cases h2 : n < 256
  · rw [berL_two (by omega) h2, List.append_assoc]
    rw [berGet_at 129 (by simp)]
    rw [show (x ++ ([129, UInt8.ofNat n] ++ y))[x.length + 1]? = some (UInt8.ofNat n) by rw [List.getElem?_append_right (by omega)]; simp]
    rw [Option.map_some, ofNat_val h2, show (129 : UInt8).toNat = 129 from rfl, berRead_two _ (by omega)]
    rfl
  · rw [berL_three (by omega), List.append_assoc]
    rw [berGet_at 130 (by simp)]
    rw [show (x ++ ([130, UInt8.ofNat (n / 256), UInt8.ofNat (n % 256)] ++ y))[x.length + 1]? = some (UInt8.ofNat (n / 256)) by rw [List.getElem?_append_right (by omega)]; simp]
    rw [show (x ++ ([130, UInt8.ofNat (n / 256), UInt8.ofNat (n % 256)] ++ y))[x.length + 2]? = some (UInt8.ofNat (n % 256)) by rw [List.getElem?_append_right (by omega)]; simp]
    rw [Option.map_some, Option.map_some, ofNat_val (by omega), ofNat_val (by omega), show (130 : UInt8).toNat = 130 from rfl, berRead_three (by omega)]
    rw [show 256 * (n / 256) + n % 256 = n by omega]
    rfl

/-- What stands at a place and is a length: it is one, and its bytes stand there. -/
theorem berGet_put {l : List UInt8} {p : Nat} (h : (berGet l p).2.2 = 0) : (berGet l p).1 < 65536 ∧ (berGet l p).2.1 = p + berSz (berGet l p).1 ∧ (berGet l p).2.1 ≤ l.length ∧ berL (berGet l p).1 = (l.drop p).take (berSz (berGet l p).1) := by
  have hcut : p < l.length := by
    by_cases g : p < l.length
    · exact g
    · rw [berGet_cut (by omega)] at h; exact absurd h (by decide)
  have hd : l.drop p = l[p] :: l.drop (p + 1) := (List.getElem_cons_drop hcut).symm
  have ha := l[p].toNat_lt
  rw [berGet_at l[p] (List.getElem?_eq_getElem hcut)] at h ⊢
  by_cases h1 : l[p].toNat < 128
  · rw [berRead_one _ _ h1]
    refine ⟨by show l[p].toNat < _; omega, by show p + 1 = _; rw [berSz_one h1], by show p + 1 ≤ _; omega, ?_⟩
    show berL l[p].toNat = _
    rw [berL_one h1, berSz_one h1, hd, UInt8.ofNat_toNat]
    rfl
  by_cases h2 : l[p].toNat = 129
  · have e129 : l[p] = 129 := UInt8.toNat_inj.1 h2
    rw [h2] at h ⊢
    by_cases hq : p + 1 < l.length
    · rw [List.getElem?_eq_getElem hq, Option.map_some] at h ⊢
      have hb := l[p + 1].toNat_lt
      by_cases h3 : l[p + 1].toNat < 128
      · rw [berRead_bad1 _ h3] at h; exact absurd h (by decide)
      rw [berRead_two _ (by omega)]
      refine ⟨by show l[p + 1].toNat < _; omega, by show p + 2 = _; rw [berSz_two (by omega) hb], by show p + 2 ≤ _; omega, ?_⟩
      show berL l[p + 1].toNat = _
      rw [berL_two (by omega) hb, berSz_two (by omega) hb, hd, (List.getElem_cons_drop hq).symm, UInt8.ofNat_toNat, e129]
      rfl
    · rw [List.getElem?_eq_none (by omega), Option.map_none, berRead_cut1] at h; exact absurd h (by decide)
  by_cases h3 : l[p].toNat = 130
  · have e130 : l[p] = 130 := UInt8.toNat_inj.1 h3
    rw [h3] at h ⊢
    by_cases hq : p + 2 < l.length
    · have hq1 : p + 1 < l.length := by omega
      rw [List.getElem?_eq_getElem hq, List.getElem?_eq_getElem hq1, Option.map_some, Option.map_some] at h ⊢
      have hb := l[p + 1].toNat_lt
      have hc := l[p + 2].toNat_lt
      by_cases h4 : l[p + 1].toNat = 0
      · rw [h4, berRead_bad2] at h; exact absurd h (by decide)
      rw [berRead_three (by omega)]
      have d1 : (256 * l[p + 1].toNat + l[p + 2].toNat) / 256 = l[p + 1].toNat := by omega
      have d2 : (256 * l[p + 1].toNat + l[p + 2].toNat) % 256 = l[p + 2].toNat := by omega
      refine ⟨by show 256 * l[p + 1].toNat + l[p + 2].toNat < _; omega, by show p + 3 = _; rw [berSz_three (by omega)], by show p + 3 ≤ _; omega, ?_⟩
      show berL (256 * l[p + 1].toNat + l[p + 2].toNat) = _
      rw [berL_three (by omega), berSz_three (by omega), d1, d2, hd, (List.getElem_cons_drop hq1).symm, (List.getElem_cons_drop hq).symm, UInt8.ofNat_toNat, UInt8.ofNat_toNat, e130]
      rfl
    · rw [List.getElem?_eq_none (show l.length ≤ p + 2 by omega), Option.map_none, berRead_cut2] at h; exact absurd h (by decide)
  rw [berRead_no _ _ (by omega)] at h
  exact absurd h (by decide)

theorem ofNat_less {m n : Nat} (hm : m < 256) (hn : n < 256) : decide (UInt8.ofNat m < UInt8.ofNat n) = decide (m < n) := by
  rw [Bool.eq_iff_iff, decide_eq_true_eq, decide_eq_true_eq, UInt8.lt_iff_toNat_lt, ofNat_val hm, ofNat_val hn]
theorem ofNat_same {m n : Nat} (hm : m < 256) (hn : n < 256) : (UInt8.ofNat m == UInt8.ofNat n) = decide (m = n) := by
  rw [Bool.eq_iff_iff, decide_eq_true_eq, beq_iff_eq, ← UInt8.toNat_inj, ofNat_val hm, ofNat_val hn]
theorem ofNat_less_lit {m k : Nat} (hm : m < 256) (hk : k < 256) : decide (UInt8.ofNat m < UInt8.ofNat k) = decide (m < k) := ofNat_less hm hk

/-- Lengths' bytes compare as the lengths do. -/
theorem ber_less {m n : Nat} (hm : m < 65536) (hn : n < 65536) : Op.bytesLess (berL m) (berL n) = decide (m < n) := by
  have e129 : (129 : UInt8) = UInt8.ofNat 129 := rfl
  have e130 : (130 : UInt8) = UInt8.ofNat 130 := rfl
  by_cases m1 : m < 128
  · rw [berL_one m1]
    by_cases n1 : n < 128
    · rw [berL_one n1]
      simp only [Op.bytesLess]
      rw [ofNat_less (by omega) (by omega)]
      simp
    · by_cases n2 : n < 256
      · rw [berL_two (by omega) n2]
        simp only [Op.bytesLess]
        rw [e129, ofNat_less (by omega) (by omega), ofNat_same (by omega) (by omega)]
        rw [Bool.eq_iff_iff]; simp; omega
      · rw [berL_three (by omega)]
        simp only [Op.bytesLess]
        rw [e130, ofNat_less (by omega) (by omega), ofNat_same (by omega) (by omega)]
        rw [Bool.eq_iff_iff]; simp; omega
  by_cases m2 : m < 256
  · rw [berL_two (by omega) m2]
    by_cases n1 : n < 128
    · rw [berL_one n1]
      simp only [Op.bytesLess]
      rw [e129, ofNat_less (by omega) (by omega), ofNat_same (by omega) (by omega)]
      rw [Bool.eq_iff_iff]; simp; omega
    · by_cases n2 : n < 256
      · rw [berL_two (by omega) n2]
        simp only [Op.bytesLess]
        rw [ofNat_less (by omega) (by omega)]
        simp
      · rw [berL_three (by omega)]
        simp only [Op.bytesLess]
        rw [e129, e130, ofNat_less (by omega) (by omega), ofNat_same (by omega) (by omega)]
        rw [Bool.eq_iff_iff]; simp; omega
  · rw [berL_three (by omega)]
    by_cases n1 : n < 128
    · rw [berL_one n1]
      simp only [Op.bytesLess]
      rw [e130, ofNat_less (by omega) (by omega), ofNat_same (by omega) (by omega)]
      rw [Bool.eq_iff_iff]; simp; omega
    · by_cases n2 : n < 256
      · rw [berL_two (by omega) n2]
        simp only [Op.bytesLess]
        rw [e129, e130, ofNat_less (by omega) (by omega), ofNat_same (by omega) (by omega)]
        rw [Bool.eq_iff_iff]; simp; omega
      · rw [berL_three (by omega)]
        simp only [Op.bytesLess]
        rw [ofNat_less (by omega) (by omega), ofNat_less (by omega) (by omega), ofNat_same (by omega) (by omega)]
        rw [Bool.eq_iff_iff]; simp; omega

/-- No length's bytes begin another one's. -/
theorem ber_apart {m n : Nat} (hm : m < 65536) (hn : n < 65536) (k : Nat) (hk : k = min (berL m).length (berL n).length) : (berL m).take k = (berL n).take k ↔ m = n := by
  constructor
  · intro h
    have e1 := berGet_back [] ((berL m).drop k) hm
    have hx : ∀ u v : List UInt8, k ≤ u.length → k ≤ v.length → k = min u.length v.length → u.take k = v.take k → u = v.take u.length ∨ v = u.take v.length := by
      intro u v hu hv hk h
      by_cases g : u.length ≤ v.length
      · left
        rw [show k = u.length by omega, List.take_length] at h
        exact h
      · right
        rw [show k = v.length by omega, List.take_length] at h
        exact h.symm
    rcases hx _ _ (by omega) (by omega) hk h with g | g
    · have a := berGet_back [] ((berL n).drop (berL m).length) hm
      have b := berGet_back [] [] hn
      have c : [] ++ berL m ++ (berL n).drop (berL m).length = [] ++ berL n ++ [] := by
        rw [List.nil_append, List.nil_append, List.append_nil]
        conv => lhs; lhs; rw [g]
        exact List.take_append_drop _ _
      rw [c, b] at a
      injection a with a _
      exact a.symm
    · have a := berGet_back [] ((berL m).drop (berL n).length) hn
      have b := berGet_back [] [] hm
      have c : [] ++ berL n ++ (berL m).drop (berL n).length = [] ++ berL m ++ [] := by
        rw [List.nil_append, List.nil_append, List.append_nil]
        conv => lhs; lhs; rw [g]
        exact List.take_append_drop _ _
      rw [c, b] at a
      injection a with a _
  · rintro rfl; rfl

end Go.Proofs.YtnbllngljgmebaaDoor

/-
  What Size and number answer: for every number, and every text of one or two bytes, in every world.
-/
namespace Go.Proofs.YtnbllngljgmebaaDoor
open Go.RowKit

theorem bersize_far (n : Int) (w : World) (h : n < 0 ∨ 65535 < n) : Calls Tryd.prog 110 #[.int .i64 n] w fun e w' => e = .returned (.int .i64 0) ∧ w = w' := by
  by_cases h0 : n < 0
  · clear h
    go_enter Tryd.func110, Tryd.ntmps110
    go_wp2
    go_ret
    exact ⟨rfl, rfl⟩
  · have h1 : decide (n < 0) = false := by simpa using h0
    have h2 : 65535 < n := by omega
    clear h h0
    go_enter Tryd.func110, Tryd.ntmps110
    go_wp2
    go_ret
    exact ⟨rfl, rfl⟩

theorem bersize_any (n : Nat) (w : World) (h : n < 65536) : Calls Tryd.prog 110 #[.int .i64 (n : Int)] w fun e w' => e = .returned (.int .i64 (berSz n : Int)) ∧ w = w' := by
  have t1 : decide ((n : Int) < 0) = false := by simp
  have t2 : decide ((65535 : Int) < (n : Int)) = false := by simp; omega
  by_cases h1 : n < 128
  · rw [berSz_one h1]
    have t3 : decide ((255 : Int) < (n : Int)) = false := by simp; omega
    have t4 : decide ((128 : Int) ≤ (n : Int)) = false := by simp; omega
    clear h h1
    go_enter Tryd.func110, Tryd.ntmps110
    go_wp2
    go_ret
    exact ⟨rfl, rfl⟩
  by_cases h2 : n < 256
  · rw [berSz_two (by omega) h2]
    have t3 : decide ((255 : Int) < (n : Int)) = false := by simp; omega
    have t4 : decide ((128 : Int) ≤ (n : Int)) = true := by simp; omega
    clear h h1 h2
    go_enter Tryd.func110, Tryd.ntmps110
    go_wp2
    go_ret
    exact ⟨rfl, rfl⟩
  · rw [berSz_three (by omega)]
    have t3 : decide ((255 : Int) < (n : Int)) = true := by simp; omega
    have t4 : decide ((128 : Int) ≤ (n : Int)) = true := by simp; omega
    clear h h1 h2
    go_enter Tryd.func110, Tryd.ntmps110
    go_wp2
    go_ret
    exact ⟨rfl, rfl⟩

/-- What bytes tell, the highest one first. -/
def berNum (l : List UInt8) : Nat := l.foldl (fun n c => 256 * n + c.toNat) 0
theorem berNum_snoc (l : List UInt8) (c : UInt8) : berNum (l ++ [c]) = 256 * berNum l + c.toNat := by simp [berNum, List.foldl_append]
theorem berNum_step (s : ByteArray) (k : Nat) (h : k < s.size) : berNum (s.data.toList.take (k + 1)) = 256 * berNum (s.data.toList.take k) + s[k].toNat := by
  rw [List.take_succ_eq_append_getElem (by simpa using h), berNum_snoc]; rfl
theorem berNum_few (l : List UInt8) (h : l.length ≤ 1) : berNum l < 256 := by
  match l with
  | [] => exact (by decide)
  | [c] => have := c.toNat_lt; show 256 * 0 + c.toNat < 256; omega
  | _ :: _ :: _ => simp at h

set_option maxRecDepth 100000 in
set_option maxHeartbeats 800000 in
theorem number_any (s : ByteArray) (w : World) (hs : s.size ≤ 2) : Calls Tryd.prog 109 #[.string s] w fun e w' => e = .returned (.int .i64 (berNum s.data.toList : Int)) ∧ w = w' := by
  go_enter Tryd.func109, Tryd.ntmps109
  go_wp2
  go_loop [3, 7] (fun n i => ∃ k m : Nat, k ≤ s.size ∧ i = .int .i64 (k : Int) ∧ n = .int .i64 (m : Int) ∧ m = berNum (s.data.toList.take k)) (fun _ i => s.size - (intOf i).toNat)
  case atStart => exact ⟨0, 0, Nat.zero_le _, rfl, rfl, rfl⟩
  case round =>
    obtain ⟨k, m, hk, rfl, rfl, hm⟩ := hrel
    have HM := Lib.hid hm; clear hm
    by_cases hlt : k < s.size
    · have hmb : m < 256 := by rw [HM.out]; exact berNum_few _ (by rw [List.length_take]; omega)
      have hc := s[k].toNat_lt
      have hst := berNum_step s k hlt
      have hix := ix_str s k hlt
      generalize s[k].toNat = c at *
      have hj := tag_join m c hmb hc
      have HS := Lib.hid hst
      have hm1 : (m : Int) < 256 := by omega
      have hc1 : (c : Int) < 256 := by omega
      obtain ⟨z, hz⟩ : ∃ z, z = 256 * m + c := ⟨_, rfl⟩
      rw [← hz] at hj
      have HZ := Lib.hid hz
      clear hst hmb hc hz
      go_wp2
      go_round
      case rel => exact ⟨k + 1, z, by omega, by go_num, by go_num, by rw [HS.out, HZ.out, HM.out]⟩
      case measure => simp [intOf]; omega
    · go_wp2
      go_ret
      have h := HM.out
      rw [List.take_of_length_le (by simp; omega)] at h
      exact ⟨by rw [← h]; rfl, rfl⟩

end Go.Proofs.YtnbllngljgmebaaDoor

/-
  What Put and the document's Put answer: for every number, in every world.
-/
namespace Go.Proofs.YtnbllngljgmebaaDoor
open Go.RowKit


end Go.Proofs.YtnbllngljgmebaaDoor

/-
  What Get answers: for every text and place, in every world.
-/
namespace Go.Proofs.YtnbllngljgmebaaDoor
open Go.RowKit

theorem berget_w_place (p : Int) (s : ByteArray) (w : World) (h : p < 0 ∨ (s.size : Int) < p) :
    Calls Tryd.prog 104 #[.string s, .int .i64 p] w fun e w' => e = .returned (.tuple #[.int .i64 0, .int .i64 0, .int .i64 1]) ∧ w = w' := by
  by_cases h0 : p < 0
  · clear h
    go_enter Tryd.func104, Tryd.ntmps104
    go_wp2
    go_ret3
    exact ⟨rfl, rfl⟩
  · have h1 : (s.size : Int) < p := by omega
    have h2 : decide (p < 0) = false := by simp; omega
    clear h h0
    go_enter Tryd.func104, Tryd.ntmps104
    go_wp2
    go_ret3
    exact ⟨rfl, rfl⟩

theorem berget_w_cut (s : ByteArray) (w : World) :
    Calls Tryd.prog 104 #[.string s, .int .i64 (s.size : Int)] w fun e w' => e = .returned (.tuple #[.int .i64 0, .int .i64 0, .int .i64 2]) ∧ w = w' := by
  have h2 : decide ((s.size : Int) < 0) = false := by simp
  go_enter Tryd.func104, Tryd.ntmps104
  go_wp2
  go_ret3
  exact ⟨rfl, rfl⟩

theorem berget_w_one (p a : Nat) (s : ByteArray) (w : World) (hs : s.size ≤ 5000000) (hp : p < s.size) (hix : At s p a) (h : a < 128) :
    Calls Tryd.prog 104 #[.string s, .int .i64 (p : Int)] w fun e w' => e = .returned (.tuple #[.int .i64 (a : Int), .int .i64 ((p + 1 : Nat) : Int), .int .i64 0]) ∧ w = w' := by
  unfold At at hix
  have h2 : decide ((p : Int) < 0) = false := by simp
  have h3 : decide (s.size < p) = false := by simp; omega
  have h4 : ((p : Int) == (s.size : Int)) = false := by simp; omega
  have ha1 : (a : Int) < 128 := by omega
  clear h
  go_enter Tryd.func104, Tryd.ntmps104
  go_wp2
  go_ret3
  exact ⟨rfl, rfl⟩

theorem berget_w_no (p a : Nat) (s : ByteArray) (w : World) (hp : p < s.size) (ha : a < 256) (hix : At s p a) (h : a = 128 ∨ 130 < a) :
    Calls Tryd.prog 104 #[.string s, .int .i64 (p : Int)] w fun e w' => e = .returned (.tuple #[.int .i64 0, .int .i64 0, .int .i64 14]) ∧ w = w' := by
  unfold At at hix
  have h2 : decide ((p : Int) < 0) = false := by simp
  have h3 : decide (s.size < p) = false := by simp; omega
  have h4 : ((p : Int) == (s.size : Int)) = false := by simp; omega
  by_cases h0 : a = 128
  · subst h0
    change ∀ w, (Instr.index 9 (.string s) (.int .i64 (p : Int))).run Tryd.prog w = .ok (.int .u8 128) w at hix
    clear h ha
    go_enter Tryd.func104, Tryd.ntmps104
    go_wp2
    go_ret3
    exact ⟨rfl, rfl⟩
  · have t1 : decide ((a : Int) < 128) = false := by simp; omega
    have t2 : ((a : Int) == 128) = false := by simp; omega
    have t3 : decide ((130 : Int) < (a : Int)) = true := by simp; omega
    have ha1 : (a : Int) < 256 := by omega
    clear h ha h0
    go_enter Tryd.func104, Tryd.ntmps104
    go_wp2
    go_ret3
    exact ⟨rfl, rfl⟩

theorem berget_w_short1 (p : Nat) (s : ByteArray) (w : World) (hs : s.size ≤ 5000000) (hp : p + 1 = s.size) (hix : At s p 129) :
    Calls Tryd.prog 104 #[.string s, .int .i64 (p : Int)] w fun e w' => e = .returned (.tuple #[.int .i64 0, .int .i64 0, .int .i64 2]) ∧ w = w' := by
  change ∀ w, (Instr.index 9 (.string s) (.int .i64 (p : Int))).run Tryd.prog w = .ok (.int .u8 129) w at hix
  have h2 : decide ((p : Int) < 0) = false := by simp
  have h3 : decide (s.size < p) = false := by simp; omega
  have h4 : ((p : Int) == (s.size : Int)) = false := by simp; omega
  have hp' : p < s.size := by omega
  have hq : s.size < p + 2 := by omega
  clear hp
  go_enter Tryd.func104, Tryd.ntmps104
  go_wp2
  go_ret3
  exact ⟨rfl, rfl⟩

theorem berget_w_short2 (p : Nat) (s : ByteArray) (w : World) (hs : s.size ≤ 5000000) (hp' : p < s.size) (hq : s.size < p + 3) (hix : At s p 130) :
    Calls Tryd.prog 104 #[.string s, .int .i64 (p : Int)] w fun e w' => e = .returned (.tuple #[.int .i64 0, .int .i64 0, .int .i64 2]) ∧ w = w' := by
  change ∀ w, (Instr.index 9 (.string s) (.int .i64 (p : Int))).run Tryd.prog w = .ok (.int .u8 130) w at hix
  have h2 : decide ((p : Int) < 0) = false := by simp
  have h3 : decide (s.size < p) = false := by simp; omega
  have h4 : ((p : Int) == (s.size : Int)) = false := by simp; omega
  go_enter Tryd.func104, Tryd.ntmps104
  go_wp2
  go_ret3
  exact ⟨rfl, rfl⟩

theorem berget_w_bad1 (p z k : Nat) (s : ByteArray) (w : World) (hs : s.size ≤ 5000000) (hp : p + 1 < s.size) (hix : At s p 129) (hk : k < 2)
    (hn : ∀ W, Calls Tryd.prog 109 #[.string (s.extract (p + 1) (p + 2))] W fun e w' => e = .returned (.int .i64 (z : Int)) ∧ W = w')
    (hz : ∀ W, Calls Tryd.prog 110 #[.int .i64 (z : Int)] W fun e w' => e = .returned (.int .i64 (k : Int)) ∧ W = w') :
    Calls Tryd.prog 104 #[.string s, .int .i64 (p : Int)] w fun e w' => e = .returned (.tuple #[.int .i64 0, .int .i64 0, .int .i64 14]) ∧ w = w' := by
  change ∀ w, (Instr.index 9 (.string s) (.int .i64 (p : Int))).run Tryd.prog w = .ok (.int .u8 129) w at hix
  have HN := Lib.hid hn
  have HZ := Lib.hid hz
  have h2 : decide ((p : Int) < 0) = false := by simp
  have h3 : decide (s.size < p) = false := by simp; omega
  have h4 : ((p : Int) == (s.size : Int)) = false := by simp; omega
  have hp' : p < s.size := by omega
  clear hn hz
  go_enter Tryd.func104, Tryd.ntmps104
  go_wp2_with fail
  refine (HN.out _).mono ?_
  rintro e w1 ⟨rfl, rfl⟩
  go_wp2_with fail
  refine (HZ.out _).mono ?_
  rintro e w1 ⟨rfl, rfl⟩
  go_wp2
  go_ret3
  exact ⟨rfl, rfl⟩

theorem berget_w_bad2 (p z k : Nat) (s : ByteArray) (w : World) (hs : s.size ≤ 5000000) (hp : p + 2 < s.size) (hix : At s p 130) (hk : k < 3)
    (hn : ∀ W, Calls Tryd.prog 109 #[.string (s.extract (p + 1) (p + 3))] W fun e w' => e = .returned (.int .i64 (z : Int)) ∧ W = w')
    (hz : ∀ W, Calls Tryd.prog 110 #[.int .i64 (z : Int)] W fun e w' => e = .returned (.int .i64 (k : Int)) ∧ W = w') :
    Calls Tryd.prog 104 #[.string s, .int .i64 (p : Int)] w fun e w' => e = .returned (.tuple #[.int .i64 0, .int .i64 0, .int .i64 14]) ∧ w = w' := by
  change ∀ w, (Instr.index 9 (.string s) (.int .i64 (p : Int))).run Tryd.prog w = .ok (.int .u8 130) w at hix
  have HN := Lib.hid hn
  have HZ := Lib.hid hz
  have h2 : decide ((p : Int) < 0) = false := by simp
  have h3 : decide (s.size < p) = false := by simp; omega
  have h4 : ((p : Int) == (s.size : Int)) = false := by simp; omega
  have hp' : p < s.size := by omega
  clear hn hz
  go_enter Tryd.func104, Tryd.ntmps104
  go_wp2_with fail
  refine (HN.out _).mono ?_
  rintro e w1 ⟨rfl, rfl⟩
  go_wp2_with fail
  refine (HZ.out _).mono ?_
  rintro e w1 ⟨rfl, rfl⟩
  go_wp2
  go_ret3
  exact ⟨rfl, rfl⟩

theorem berget_w_two (p z k : Nat) (s : ByteArray) (w : World) (hs : s.size ≤ 5000000) (hp : p + 1 < s.size) (hix : At s p 129) (hk : k = 2)
    (hn : ∀ W, Calls Tryd.prog 109 #[.string (s.extract (p + 1) (p + 2))] W fun e w' => e = .returned (.int .i64 (z : Int)) ∧ W = w')
    (hz : ∀ W, Calls Tryd.prog 110 #[.int .i64 (z : Int)] W fun e w' => e = .returned (.int .i64 (k : Int)) ∧ W = w') :
    Calls Tryd.prog 104 #[.string s, .int .i64 (p : Int)] w fun e w' => e = .returned (.tuple #[.int .i64 (z : Int), .int .i64 ((p + 2 : Nat) : Int), .int .i64 0]) ∧ w = w' := by
  change ∀ w, (Instr.index 9 (.string s) (.int .i64 (p : Int))).run Tryd.prog w = .ok (.int .u8 129) w at hix
  have HN := Lib.hid hn
  have HZ := Lib.hid hz
  have h2 : decide ((p : Int) < 0) = false := by simp
  have h3 : decide (s.size < p) = false := by simp; omega
  have h4 : ((p : Int) == (s.size : Int)) = false := by simp; omega
  have hp' : p < s.size := by omega
  clear hn hz
  subst hk
  go_enter Tryd.func104, Tryd.ntmps104
  go_wp2_with fail
  refine (HN.out _).mono ?_
  rintro e w1 ⟨rfl, rfl⟩
  go_wp2_with fail
  refine (HZ.out _).mono ?_
  rintro e w1 ⟨rfl, rfl⟩
  go_wp2
  go_ret3
  exact ⟨rfl, rfl⟩

theorem berget_w_three (p z k : Nat) (s : ByteArray) (w : World) (hs : s.size ≤ 5000000) (hp : p + 2 < s.size) (hix : At s p 130) (hk : k = 3)
    (hn : ∀ W, Calls Tryd.prog 109 #[.string (s.extract (p + 1) (p + 3))] W fun e w' => e = .returned (.int .i64 (z : Int)) ∧ W = w')
    (hz : ∀ W, Calls Tryd.prog 110 #[.int .i64 (z : Int)] W fun e w' => e = .returned (.int .i64 (k : Int)) ∧ W = w') :
    Calls Tryd.prog 104 #[.string s, .int .i64 (p : Int)] w fun e w' => e = .returned (.tuple #[.int .i64 (z : Int), .int .i64 ((p + 3 : Nat) : Int), .int .i64 0]) ∧ w = w' := by
  change ∀ w, (Instr.index 9 (.string s) (.int .i64 (p : Int))).run Tryd.prog w = .ok (.int .u8 130) w at hix
  have HN := Lib.hid hn
  have HZ := Lib.hid hz
  have h2 : decide ((p : Int) < 0) = false := by simp
  have h3 : decide (s.size < p) = false := by simp; omega
  have h4 : ((p : Int) == (s.size : Int)) = false := by simp; omega
  have hp' : p < s.size := by omega
  clear hn hz
  subst hk
  go_enter Tryd.func104, Tryd.ntmps104
  go_wp2_with fail
  refine (HN.out _).mono ?_
  rintro e w1 ⟨rfl, rfl⟩
  go_wp2_with fail
  refine (HZ.out _).mono ?_
  rintro e w1 ⟨rfl, rfl⟩
  go_wp2
  go_ret3
  exact ⟨rfl, rfl⟩

def bergetV (r : Nat × Nat × Nat) : Value := .tuple #[.int .i64 (r.1 : Int), .int .i64 (r.2.1 : Int), .int .i64 (r.2.2 : Int)]

theorem berNum_one (s : ByteArray) (p : Nat) (h : p + 1 < s.size) : berNum (s.extract (p + 1) (p + 2)).data.toList = s[p + 1].toNat := by
  have hl : s.data.toList.length = s.size := by simp
  rw [piece_list s (p + 1) 1, List.drop_eq_getElem_cons (by omega)]
  show 256 * 0 + s[p + 1].toNat = _
  omega
theorem berNum_two (s : ByteArray) (p : Nat) (h : p + 2 < s.size) : berNum (s.extract (p + 1) (p + 3)).data.toList = 256 * s[p + 1].toNat + s[p + 2].toNat := by
  have hl : s.data.toList.length = s.size := by simp
  rw [piece_list s (p + 1) 2, List.drop_eq_getElem_cons (by omega), List.drop_eq_getElem_cons (by omega)]
  show 256 * (256 * 0 + s[p + 1].toNat) + s[p + 2].toNat = _
  omega

/-- What Get answers at a place of a text. -/
theorem berget_any (p : Nat) (s : ByteArray) (w : World) (hs : s.size ≤ 5000000) (hp : p ≤ s.size) :
    Calls Tryd.prog 104 #[.string s, .int .i64 (p : Int)] w fun e w' => e = .returned (bergetV (berGet s.data.toList p)) ∧ w = w' := by
  have hl : s.data.toList.length = s.size := by simp
  by_cases h : p = s.size
  · subst h
    rw [berGet_cut (by omega)]
    exact berget_w_cut s w
  have hp : p < s.size := by omega
  have ha := s[p].toNat_lt
  have hix := at_str s p hp
  rw [berGet_at _ (list_at s p hp)]
  generalize s[p].toNat = a at *
  by_cases h1 : a < 128
  · rw [berRead_one _ _ h1]
    exact berget_w_one p a s w hs hp hix h1
  by_cases h2 : a = 129
  · subst h2
    by_cases hq : p + 1 = s.size
    · rw [List.getElem?_eq_none (by omega), Option.map_none, berRead_cut1]
      exact berget_w_short1 p s w hs hq hix
    · have hq : p + 1 < s.size := by omega
      have hn := fun W => number_any (s.extract (p + 1) (p + 2)) W (by simp; omega)
      rw [berNum_one s p hq] at hn
      rw [list_at s (p + 1) hq, Option.map_some]
      have hb := s[p + 1].toNat_lt
      generalize s[p + 1].toNat = b at *
      have hz := fun W => bersize_any b W (by omega)
      by_cases h3 : b < 128
      · rw [berRead_bad1 _ h3]
        rw [berSz_one h3] at hz
        exact berget_w_bad1 p b 1 s w hs hq hix (by omega) hn hz
      · rw [berRead_two _ (by omega)]
        rw [berSz_two (by omega) hb] at hz
        exact berget_w_two p b 2 s w hs hq hix rfl hn hz
  by_cases h3 : a = 130
  · subst h3
    by_cases hq : s.size < p + 3
    · rw [List.getElem?_eq_none (show s.data.toList.length ≤ p + 2 by omega), Option.map_none, berRead_cut2]
      exact berget_w_short2 p s w hs hp hq hix
    · have hq : p + 2 < s.size := by omega
      have hq1 : p + 1 < s.size := by omega
      have hn := fun W => number_any (s.extract (p + 1) (p + 3)) W (by simp; omega)
      rw [berNum_two s p hq] at hn
      rw [list_at s (p + 1) hq1, list_at s (p + 2) hq, Option.map_some, Option.map_some]
      have hb := s[p + 1].toNat_lt
      have hc := s[p + 2].toNat_lt
      generalize s[p + 1].toNat = b at *
      generalize s[p + 2].toNat = c at *
      have hz := fun W => bersize_any (256 * b + c) W (by omega)
      by_cases h4 : b = 0
      · subst h4
        rw [berRead_bad2]
        exact berget_w_bad2 p _ _ s w hs hq hix (by
          have := berSz_le (256 * 0 + c)
          by_cases g : c < 128
          · rw [berSz_one (by omega)]; omega
          · rw [berSz_two (by omega) (by omega)]; omega) hn hz
      · rw [berRead_three (by omega)]
        rw [berSz_three (by omega)] at hz
        exact berget_w_three p _ 3 s w hs hq hix rfl hn hz
  rw [berRead_no _ _ (by omega)]
  exact berget_w_no p a s w hp ha hix (by omega)

end Go.Proofs.YtnbllngljgmebaaDoor

/-
  What the document's Get answers: for every text and place, in every world.
-/
namespace Go.Proofs.YtnbllngljgmebaaDoor
open Go.RowKit

theorem berrefGet_place (p : Int) (s : ByteArray) (w : World) (h : p < 0 ∨ (s.size : Int) < p) :
    Calls Tryd.prog 75 #[.string s, .int .i64 p] w fun e w' => e = .returned (.tuple #[.int .i64 0, .int .i64 0, .int .i64 1]) ∧ Below w.heap.size w w' := by
  by_cases h0 : p < 0
  · clear h
    go_enter Tryd.func75, Tryd.ntmps75
    go_wp2
    go_ret3
    exact ⟨rfl, Below.refl _ _⟩
  · have h1 : (s.size : Int) < p := by omega
    have h2 : decide (p < 0) = false := by simp; omega
    clear h h0
    go_enter Tryd.func75, Tryd.ntmps75
    go_wp2
    go_ret3
    exact ⟨rfl, Below.refl _ _⟩

theorem berrefGet_cut (s : ByteArray) (w : World) :
    Calls Tryd.prog 75 #[.string s, .int .i64 (s.size : Int)] w fun e w' => e = .returned (.tuple #[.int .i64 0, .int .i64 0, .int .i64 2]) ∧ Below w.heap.size w w' := by
  have h2 : decide ((s.size : Int) < 0) = false := by simp
  go_enter Tryd.func75, Tryd.ntmps75
  go_wp2
  go_ret3
  exact ⟨rfl, Below.refl _ _⟩

theorem berrefGet_one (p a : Nat) (s : ByteArray) (w : World) (hs : s.size ≤ 1000000) (hp : p < s.size) (hix : At s p a) (h : a < 128) :
    Calls Tryd.prog 75 #[.string s, .int .i64 (p : Int)] w fun e w' => e = .returned (.tuple #[.int .i64 (a : Int), .int .i64 ((p + 1 : Nat) : Int), .int .i64 0]) ∧ Below w.heap.size w w' := by
  have h2 : decide ((p : Int) < 0) = false := by simp
  have h3 : decide (s.size < p) = false := by simp; omega
  have h4 : ((p : Int) == (s.size : Int)) = false := by simp; omega
  unfold At at hix
  have ha1 : (a : Int) < 128 := by omega
  clear h
  go_enter Tryd.func75, Tryd.ntmps75
  go_wp2
  go_ret3
  exact ⟨rfl, Below.refl _ _⟩

theorem berrefGet_no (p a : Nat) (s : ByteArray) (w : World) (_hs : s.size ≤ 1000000) (hp : p < s.size) (ha : a < 256) (hix : At s p a) (h : a = 128 ∨ 130 < a) :
    Calls Tryd.prog 75 #[.string s, .int .i64 (p : Int)] w fun e w' => e = .returned (.tuple #[.int .i64 0, .int .i64 0, .int .i64 14]) ∧ Below w.heap.size w w' := by
  have h2 : decide ((p : Int) < 0) = false := by simp
  have h3 : decide (s.size < p) = false := by simp; omega
  have h4 : ((p : Int) == (s.size : Int)) = false := by simp; omega
  unfold At at hix
  have t1 : decide ((a : Int) < 128) = false := by simp; omega
  have t2 : ((a : Int) != 129) = true := by simp; omega
  have t3 : ((a : Int) != 130) = true := by simp; omega
  have ha1 : (a : Int) < 256 := by omega
  clear h ha
  go_enter Tryd.func75, Tryd.ntmps75
  go_wp2
  go_ret3
  exact ⟨rfl, Below.refl _ _⟩

theorem berrefGet_short1 (p : Nat) (s : ByteArray) (w : World) (hs : s.size ≤ 1000000) (hp : p < s.size) (hq : p + 1 = s.size) (hix : At s p 129) :
    Calls Tryd.prog 75 #[.string s, .int .i64 (p : Int)] w fun e w' => e = .returned (.tuple #[.int .i64 0, .int .i64 0, .int .i64 2]) ∧ Below w.heap.size w w' := by
  have h2 : decide ((p : Int) < 0) = false := by simp
  have h3 : decide (s.size < p) = false := by simp; omega
  have h4 : ((p : Int) == (s.size : Int)) = false := by simp; omega
  change ∀ w, (Instr.index 9 (.string s) (.int .i64 (p : Int))).run Tryd.prog w = .ok (.int .u8 129) w at hix
  have h5 : decide ((s.size : Int) - (p : Int) < 2) = true := by simp; omega
  clear hq
  go_enter Tryd.func75, Tryd.ntmps75
  go_wp2
  go_ret3
  exact ⟨rfl, Below.refl _ _⟩

theorem berrefGet_short2 (p : Nat) (s : ByteArray) (w : World) (hs : s.size ≤ 1000000) (hp : p < s.size) (hq : s.size < p + 3) (hix : At s p 130) :
    Calls Tryd.prog 75 #[.string s, .int .i64 (p : Int)] w fun e w' => e = .returned (.tuple #[.int .i64 0, .int .i64 0, .int .i64 2]) ∧ Below w.heap.size w w' := by
  have h2 : decide ((p : Int) < 0) = false := by simp
  have h3 : decide (s.size < p) = false := by simp; omega
  have h4 : ((p : Int) == (s.size : Int)) = false := by simp; omega
  change ∀ w, (Instr.index 9 (.string s) (.int .i64 (p : Int))).run Tryd.prog w = .ok (.int .u8 130) w at hix
  have h5 : decide ((s.size : Int) - (p : Int) < 3) = true := by simp; omega
  clear hq
  go_enter Tryd.func75, Tryd.ntmps75
  go_wp2
  go_ret3
  exact ⟨rfl, Below.refl _ _⟩

theorem berrefGet_bad1 (p b : Nat) (s : ByteArray) (w : World) (hs : s.size ≤ 1000000) (_hp : p < s.size) (hq : p + 1 < s.size) (hix : At s p 129) (hiy : At s ((p : Int) + 1) b) (hb : b < 128) :
    Calls Tryd.prog 75 #[.string s, .int .i64 (p : Int)] w fun e w' => e = .returned (.tuple #[.int .i64 0, .int .i64 0, .int .i64 14]) ∧ Below w.heap.size w w' := by
  have h2 : decide ((p : Int) < 0) = false := by simp
  have h3 : decide (s.size < p) = false := by simp; omega
  have h4 : ((p : Int) == (s.size : Int)) = false := by simp; omega
  change ∀ w, (Instr.index 9 (.string s) (.int .i64 (p : Int))).run Tryd.prog w = .ok (.int .u8 129) w at hix
  unfold At at hiy
  have h5 : decide ((s.size : Int) - (p : Int) < 2) = false := by simp; omega
  have hb1 : (b : Int) < 128 := by omega
  clear hb
  go_enter Tryd.func75, Tryd.ntmps75
  go_wp2
  go_ret3
  exact ⟨rfl, Below.refl _ _⟩

theorem berrefGet_two (p b : Nat) (s : ByteArray) (w : World) (hs : s.size ≤ 1000000) (_hp : p < s.size) (hq : p + 1 < s.size) (hix : At s p 129) (hiy : At s ((p : Int) + 1) b) (hb : 128 ≤ b) (hb2 : b < 256) :
    Calls Tryd.prog 75 #[.string s, .int .i64 (p : Int)] w fun e w' => e = .returned (.tuple #[.int .i64 (b : Int), .int .i64 ((p + 2 : Nat) : Int), .int .i64 0]) ∧ Below w.heap.size w w' := by
  have h2 : decide ((p : Int) < 0) = false := by simp
  have h3 : decide (s.size < p) = false := by simp; omega
  have h4 : ((p : Int) == (s.size : Int)) = false := by simp; omega
  change ∀ w, (Instr.index 9 (.string s) (.int .i64 (p : Int))).run Tryd.prog w = .ok (.int .u8 129) w at hix
  unfold At at hiy
  have h5 : decide ((s.size : Int) - (p : Int) < 2) = false := by simp; omega
  have t1 : decide ((b : Int) < 128) = false := by simp; omega
  have hb1 : (b : Int) < 256 := by omega
  clear hb hb2
  go_enter Tryd.func75, Tryd.ntmps75
  go_wp2
  go_ret3
  exact ⟨rfl, Below.refl _ _⟩

theorem berrefGet_bad2 (p : Nat) (s : ByteArray) (w : World) (hs : s.size ≤ 1000000) (_hp : p < s.size) (hq : p + 2 < s.size) (hix : At s p 130) (hiy : At s ((p : Int) + 1) 0) :
    Calls Tryd.prog 75 #[.string s, .int .i64 (p : Int)] w fun e w' => e = .returned (.tuple #[.int .i64 0, .int .i64 0, .int .i64 14]) ∧ Below w.heap.size w w' := by
  have h2 : decide ((p : Int) < 0) = false := by simp
  have h3 : decide (s.size < p) = false := by simp; omega
  have h4 : ((p : Int) == (s.size : Int)) = false := by simp; omega
  change ∀ w, (Instr.index 9 (.string s) (.int .i64 (p : Int))).run Tryd.prog w = .ok (.int .u8 130) w at hix
  change ∀ w, (Instr.index 9 (.string s) (.int .i64 ((p : Int) + 1))).run Tryd.prog w = .ok (.int .u8 0) w at hiy
  have h5 : decide ((s.size : Int) - (p : Int) < 3) = false := by simp; omega
  go_enter Tryd.func75, Tryd.ntmps75
  go_wp2
  go_ret3
  exact ⟨rfl, Below.refl _ _⟩

set_option maxRecDepth 100000 in
set_option maxHeartbeats 800000 in
theorem berrefGet_three (p b c : Nat) (s : ByteArray) (w : World) (hs : s.size ≤ 1000000) (_hp : p < s.size) (hq : p + 2 < s.size) (hix : At s p 130) (hiy : At s ((p : Int) + 1) b) (hiz : At s ((p : Int) + 2) c) (hb0 : 1 ≤ b) (hb : b < 256) (hc : c < 256) :
    Calls Tryd.prog 75 #[.string s, .int .i64 (p : Int)] w fun e w' => e = .returned (.tuple #[.int .i64 ((256 * b + c : Nat) : Int), .int .i64 ((p + 3 : Nat) : Int), .int .i64 0]) ∧ Below w.heap.size w w' := by
  have h2 : decide ((p : Int) < 0) = false := by simp
  have h3 : decide (s.size < p) = false := by simp; omega
  have h4 : ((p : Int) == (s.size : Int)) = false := by simp; omega
  change ∀ w, (Instr.index 9 (.string s) (.int .i64 (p : Int))).run Tryd.prog w = .ok (.int .u8 130) w at hix
  unfold At at hiy hiz
  have h5 : decide ((s.size : Int) - (p : Int) < 3) = false := by simp; omega
  have g1 : ((b : Int) == 0) = false := by simp; omega
  have hb1 : (b : Int) < 256 := by omega
  have hc1 : (c : Int) < 256 := by omega
  have w1 : IntKind.i64.wrap (256 * (b : Int)) = 256 * (b : Int) := IntWalk.i64_in _ (by omega)
  have w2 : IntKind.i64.wrap ((p : Int) + 1) = (p : Int) + 1 := IntWalk.i64_in _ (by omega)
  have w7 : IntKind.i64.wrap ((p : Int) + 2) = (p : Int) + 2 := IntWalk.i64_in _ (by omega)
  have w3 : IntKind.i64.wrap (256 * (b : Int) + (c : Int)) = ((256 * b + c : Nat) : Int) := by rw [IntWalk.i64_in _ (by omega)]; omega
  have w4 : IntKind.i64.wrap ((p : Int) + 3) = ((p + 3 : Nat) : Int) := by rw [IntWalk.i64_in _ (by omega)]; omega
  have w5 : IntKind.i64.wrap (b : Int) = (b : Int) := IntWalk.i64_in _ (by omega)
  have w6 : IntKind.i64.wrap (c : Int) = (c : Int) := IntWalk.i64_in _ (by omega)
  generalize 256 * b + c = z at w3 ⊢
  generalize p + 3 = y at w4 ⊢
  clear hb hc hb0
  go_enter Tryd.func75, Tryd.ntmps75
  go_wp2
  refine wp_region_noPanic ?_
  refine wp_region_held_drew (S := fun _ => True) (by kernel_rfl) trivial (fun _ => ?_)
  refine gv 0 (v := ?_) (fun _ _ => ?_) trivial ?_
  rotate_left
  · (go_simp; try (with_reducible rfl))
  try simp only [puts]
  refine gv 1 (v := ?_) (fun _ _ => ?_) trivial ?_
  rotate_left
  · (go_simp; try (with_reducible rfl))
  try simp only [puts]
  refine gv 2 (v := ?_) (fun _ _ => ?_) trivial ?_
  rotate_left
  · (go_simp; try (with_reducible rfl))
  try simp only [puts]
  refine gv 3 (v := ?_) (fun _ _ => ?_) trivial ?_
  rotate_left
  · (go_simp; try (with_reducible rfl))
  try simp only [puts]
  refine gv 4 (v := ?_) (fun _ _ => ?_) trivial ?_
  rotate_left
  · (go_simp; try (with_reducible rfl))
  try simp only [puts]
  refine gv 5 (v := ?_) (fun _ _ => ?_) trivial ?_
  rotate_left
  · (go_simp; try (with_reducible rfl))
  try simp only [puts]
  refine gv 6 (v := ?_) (fun _ _ => ?_) trivial ?_
  rotate_left
  · (go_simp; try (with_reducible rfl))
  try simp only [puts]
  refine gv 7 (v := ?_) (fun _ _ => ?_) trivial ?_
  rotate_left
  · (go_simp; try (with_reducible rfl))
  try simp only [puts]
  refine gv 8 (v := ?_) (fun _ _ => ?_) trivial ?_
  rotate_left
  · (go_simp; try (with_reducible rfl))
  try simp only [puts]
  refine gv 9 (v := ?_) (fun _ _ => ?_) trivial ?_
  rotate_left
  · (go_simp; try (with_reducible rfl))
  try simp only [puts]
  refine gv 10 (v := ?_) (fun _ _ => ?_) trivial ?_
  rotate_left
  · (go_simp; try (with_reducible rfl))
  try simp only [puts]
  refine gv 11 (v := ?_) (fun _ _ => ?_) trivial ?_
  rotate_left
  · (go_simp; try (with_reducible rfl))
  try simp only [puts]
  refine gv 12 (v := ?_) (fun _ _ => ?_) trivial ?_
  rotate_left
  · (go_simp; try (with_reducible rfl))
  try simp only [puts]
  refine gv 13 (v := ?_) (fun _ _ => ?_) trivial ?_
  rotate_left
  · (go_simp; try (with_reducible rfl))
  try simp only [puts]
  refine gv 14 (v := ?_) (fun _ _ => ?_) trivial ?_
  rotate_left
  · (go_simp; try (with_reducible rfl))
  try simp only [puts]
  refine gv 15 (v := ?_) (fun _ _ => ?_) trivial ?_
  rotate_left
  · (go_simp; try (with_reducible rfl))
  try simp only [puts]
  refine gv 16 (v := ?_) (fun _ _ => ?_) trivial ?_
  rotate_left
  · (go_simp; try (with_reducible rfl))
  try simp only [puts]
  refine wpAnyH_done (by kernel_rfl) (NoPanic.normal ?_) _
  go_wp2
  go_ret3
  exact ⟨rfl, (Below.refl _ _).drew⟩

/-- What the document's Get answers at a place of a text. -/
theorem berrefGet_any (p : Nat) (s : ByteArray) (w : World) (hs : s.size ≤ 1000000) (hp : p ≤ s.size) :
    Calls Tryd.prog 75 #[.string s, .int .i64 (p : Int)] w fun e w' => e = .returned (bergetV (berGet s.data.toList p)) ∧ Below w.heap.size w w' := by
  have hl : s.data.toList.length = s.size := by simp
  by_cases h : p = s.size
  · subst h
    rw [berGet_cut (by omega)]
    exact berrefGet_cut s w
  have hp : p < s.size := by omega
  have ha := s[p].toNat_lt
  have hix := at_str s p hp
  rw [berGet_at _ (list_at s p hp)]
  generalize s[p].toNat = a at *
  by_cases h1 : a < 128
  · rw [berRead_one _ _ h1]
    exact berrefGet_one p a s w hs hp hix h1
  by_cases h2 : a = 129
  · subst h2
    by_cases hq : p + 1 = s.size
    · rw [List.getElem?_eq_none (by omega), Option.map_none, berRead_cut1]
      exact berrefGet_short1 p s w hs hp hq hix
    · have hq : p + 1 < s.size := by omega
      have hiy := at_str s (p + 1) hq
      rw [list_at s (p + 1) hq, Option.map_some]
      have hb := s[p + 1].toNat_lt
      generalize s[p + 1].toNat = b at *
      by_cases h3 : b < 128
      · rw [berRead_bad1 _ h3]
        exact berrefGet_bad1 p b s w hs hp hq hix hiy h3
      · rw [berRead_two _ (by omega)]
        exact berrefGet_two p b s w hs hp hq hix hiy (by omega) hb
  by_cases h3 : a = 130
  · subst h3
    by_cases hq : s.size < p + 3
    · rw [List.getElem?_eq_none (show s.data.toList.length ≤ p + 2 by omega), Option.map_none, berRead_cut2]
      exact berrefGet_short2 p s w hs hp hq hix
    · have hq : p + 2 < s.size := by omega
      have hq1 : p + 1 < s.size := by omega
      have hiy := at_str s (p + 1) hq1
      have hiz := at_str s (p + 2) hq
      rw [list_at s (p + 1) hq1, list_at s (p + 2) hq, Option.map_some, Option.map_some]
      have hb := s[p + 1].toNat_lt
      have hc := s[p + 2].toNat_lt
      generalize s[p + 1].toNat = b at *
      generalize s[p + 2].toNat = c at *
      by_cases h4 : b = 0
      · subst h4
        rw [berRead_bad2]
        exact berrefGet_bad2 p s w hs hp hq hix hiy
      · rw [berRead_three (by omega)]
        exact berrefGet_three p b c s w hs hp hq hix hiy hiz (by omega) hb hc
  rw [berRead_no _ _ (by omega)]
  exact berrefGet_no p a s w hs hp ha hix (by omega)

end Go.Proofs.YtnbllngljgmebaaDoor
