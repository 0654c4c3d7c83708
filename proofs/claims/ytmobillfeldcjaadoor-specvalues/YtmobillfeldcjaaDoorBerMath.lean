/-
  Lengths behind tags: which bytes a length has, and which length stands in bytes; put and got undo each other, bytes compare as lengths do, and no length's bytes begin another one's. (No program is named here.)
-/
import Derived.Test.YtmobillfeldcjaaDoorStrs
namespace Go.Proofs.YtmobillfeldcjaaDoor

def berSz (n : Nat) : Nat := if n < 128 then 1 else if n < 256 then 2 else 3
def berL (n : Nat) : List UInt8 := if n < 128 then [UInt8.ofNat n] else if n < 256 then [129, UInt8.ofNat n] else [130, UInt8.ofNat (n / 256), UInt8.ofNat (n % 256)]
/-- What three bytes say that stand there, the second and the third one perhaps not. -/
def berRead (p a : Nat) (ob oc : Option Nat) : Nat × Nat × Nat :=
  if a < 128 then (a, p + 1, 0)
  else if a = 129 then (match ob with | none => (0, 0, 2) | some b => if b < 128 then (0, 0, 14) else (b, p + 2, 0))
  else if a = 130 then (match ob, oc with | some b, some c => if b = 0 then (0, 0, 14) else (256 * b + c, p + 3, 0) | _, _ => (0, 0, 2))
  else (0, 0, 14)
/-- The length, the place behind it, an error. -/
def berGet (l : List UInt8) (p : Nat) : Nat × Nat × Nat :=
  match l[p]? with
  | none => (0, 0, 2)
  | some a => berRead p a.toNat ((l[p + 1]?).map UInt8.toNat) ((l[p + 2]?).map UInt8.toNat)

theorem berL_one {n : Nat} (h : n < 128) : berL n = [UInt8.ofNat n] := by unfold berL; rw [if_pos h]
theorem berL_two {n : Nat} (h : 128 ≤ n) (h2 : n < 256) : berL n = [129, UInt8.ofNat n] := by unfold berL; rw [if_neg (by omega), if_pos h2]
theorem berL_three {n : Nat} (h : 256 ≤ n) : berL n = [130, UInt8.ofNat (n / 256), UInt8.ofNat (n % 256)] := by unfold berL; rw [if_neg (by omega), if_neg (by omega)]
theorem berL_length (n : Nat) : (berL n).length = berSz n := by unfold berL berSz; split; · rfl
                                                                split <;> rfl
theorem berSz_one {n : Nat} (h : n < 128) : berSz n = 1 := by unfold berSz; rw [if_pos h]
theorem berSz_two {n : Nat} (h : 128 ≤ n) (h2 : n < 256) : berSz n = 2 := by unfold berSz; rw [if_neg (by omega), if_pos h2]
theorem berSz_three {n : Nat} (h : 256 ≤ n) : berSz n = 3 := by unfold berSz; rw [if_neg (by omega), if_neg (by omega)]
theorem berSz_le (n : Nat) : 1 ≤ berSz n ∧ berSz n ≤ 3 := by unfold berSz; split; · omega
                                                             split <;> omega

theorem berGet_cut {l : List UInt8} {p : Nat} (h : l.length ≤ p) : berGet l p = (0, 0, 2) := by unfold berGet; rw [List.getElem?_eq_none h]
theorem berGet_at {l : List UInt8} {p : Nat} (a : UInt8) (h : l[p]? = some a) : berGet l p = berRead p a.toNat ((l[p + 1]?).map UInt8.toNat) ((l[p + 2]?).map UInt8.toNat) := by unfold berGet; rw [h]
theorem berRead_one {p a : Nat} (ob oc : Option Nat) (h : a < 128) : berRead p a ob oc = (a, p + 1, 0) := by unfold berRead; rw [if_pos h]
theorem berRead_no {p a : Nat} (ob oc : Option Nat) (h : a = 128 ∨ 130 < a) : berRead p a ob oc = (0, 0, 14) := by
  unfold berRead
  rw [if_neg (by omega), if_neg (by omega), if_neg (by omega)]
theorem berRead_cut1 {p : Nat} (oc : Option Nat) : berRead p 129 none oc = (0, 0, 2) := rfl
theorem berRead_bad1 {p b : Nat} (oc : Option Nat) (h : b < 128) : berRead p 129 (some b) oc = (0, 0, 14) := by
  show (if b < 128 then _ else _) = _
  rw [if_pos h]
theorem berRead_two {p b : Nat} (oc : Option Nat) (h : 128 ≤ b) : berRead p 129 (some b) oc = (b, p + 2, 0) := by
  show (if b < 128 then _ else _) = _
  rw [if_neg (by omega)]
theorem berRead_cut2 {p : Nat} (ob : Option Nat) : berRead p 130 ob none = (0, 0, 2) := by cases ob <;> rfl
theorem berRead_cut3 {p : Nat} (oc : Option Nat) : berRead p 130 none oc = (0, 0, 2) := by cases oc <;> rfl
theorem berRead_bad2 {p c : Nat} : berRead p 130 (some 0) (some c) = (0, 0, 14) := rfl
theorem berRead_three {p b c : Nat} (h : 1 ≤ b) : berRead p 130 (some b) (some c) = (256 * b + c, p + 3, 0) := by
  show (if b = 0 then _ else _) = _
  rw [if_neg (by omega)]

/-- With an error nothing is told; without one the length is one that there is. -/
theorem berRead_err {p a : Nat} {ob oc : Option Nat} (h : (berRead p a ob oc).2.2 ≠ 0) : (berRead p a ob oc).1 = 0 ∧ (berRead p a ob oc).2.1 = 0 := by
  by_cases h1 : a < 128
  · rw [berRead_one _ _ h1] at h; exact absurd rfl h
  by_cases h2 : a = 129
  · subst h2
    cases ob with
    | none => exact ⟨rfl, rfl⟩
    | some b =>
      by_cases hb : b < 128
      · rw [berRead_bad1 _ hb]; exact ⟨rfl, rfl⟩
      · rw [berRead_two _ (by omega)] at h; exact absurd rfl h
  by_cases h3 : a = 130
  · subst h3
    cases ob with
    | none => rw [berRead_cut3]; exact ⟨rfl, rfl⟩
    | some b =>
      cases oc with
      | none => exact ⟨rfl, rfl⟩
      | some c =>
        by_cases hb : b = 0
        · subst hb; exact ⟨rfl, rfl⟩
        · rw [berRead_three (by omega)] at h; exact absurd rfl h
  rw [berRead_no _ _ (by omega)]
  exact ⟨rfl, rfl⟩
theorem berGet_err {l : List UInt8} {p : Nat} (h : (berGet l p).2.2 ≠ 0) : (berGet l p).1 = 0 ∧ (berGet l p).2.1 = 0 := by
  unfold berGet at *
  split at h
  · exact ⟨rfl, rfl⟩
  · exact berRead_err h

/-- A length that is put is got. -/
theorem berGet_back {n : Nat} (x y : List UInt8) (h : n < 65536) : berGet (x ++ berL n ++ y) x.length = (n, x.length + (berL n).length, 0) := by
  by_cases h1 : n < 128
  · rw [berL_one h1, List.append_assoc]
    rw [berGet_at (UInt8.ofNat n) (by simp), ofNat_val (by omega), berRead_one _ _ h1]
    rfl
  by_cases h2 : n < 256
  · rw [berL_two (by omega) h2, List.append_assoc]
    rw [berGet_at 129 (by simp)]
    rw [show (x ++ ([129, UInt8.ofNat n] ++ y))[x.length + 1]? = some (UInt8.ofNat n) by rw [List.getElem?_append_right (by omega)]; simp]
    rw [Option.map_some, ofNat_val h2, show (129 : UInt8).toNat = 129 from rfl, berRead_two _ (by omega)]
    rfl
  · rw [berL_three (by omega), List.append_assoc]
    rw [berGet_at 130 (by simp)]
    rw [show (x ++ ([130, UInt8.ofNat (n / 256), UInt8.ofNat (n % 256)] ++ y))[x.length + 1]? = some (UInt8.ofNat (n / 256)) by rw [List.getElem?_append_right (by omega)]; simp]
    rw [show (x ++ ([130, UInt8.ofNat (n / 256), UInt8.ofNat (n % 256)] ++ y))[x.length + 2]? = some (UInt8.ofNat (n % 256)) by rw [List.getElem?_append_right (by omega)]; simp]
    rw [Option.map_some, Option.map_some, ofNat_val (by omega), ofNat_val (by omega), show (130 : UInt8).toNat = 130 from rfl, berRead_three (by omega)]
    rw [show 256 * (n / 256) + n % 256 = n by omega]
    rfl

/-- What stands at a place and is a length: it is one, and its bytes stand there. -/
theorem berGet_put {l : List UInt8} {p : Nat} (h : (berGet l p).2.2 = 0) : (berGet l p).1 < 65536 ∧ (berGet l p).2.1 = p + berSz (berGet l p).1 ∧ (berGet l p).2.1 ≤ l.length ∧ berL (berGet l p).1 = (l.drop p).take (berSz (berGet l p).1) := by
  have hcut : p < l.length := by
    by_cases g : p < l.length
    · exact g
    · rw [berGet_cut (by omega)] at h; exact absurd h (by decide)
  have hd : l.drop p = l[p] :: l.drop (p + 1) := (List.getElem_cons_drop hcut).symm
  have ha := l[p].toNat_lt
  rw [berGet_at l[p] (List.getElem?_eq_getElem hcut)] at h ⊢
  by_cases h1 : l[p].toNat < 128
  · rw [berRead_one _ _ h1]
    refine ⟨by show l[p].toNat < _; omega, by show p + 1 = _; rw [berSz_one h1], by show p + 1 ≤ _; omega, ?_⟩
    show berL l[p].toNat = _
    rw [berL_one h1, berSz_one h1, hd, UInt8.ofNat_toNat]
    rfl
  by_cases h2 : l[p].toNat = 129
  · have e129 : l[p] = 129 := UInt8.toNat_inj.1 h2
    rw [h2] at h ⊢
    by_cases hq : p + 1 < l.length
    · rw [List.getElem?_eq_getElem hq, Option.map_some] at h ⊢
      have hb := l[p + 1].toNat_lt
      by_cases h3 : l[p + 1].toNat < 128
      · rw [berRead_bad1 _ h3] at h; exact absurd h (by decide)
      rw [berRead_two _ (by omega)]
      refine ⟨by show l[p + 1].toNat < _; omega, by show p + 2 = _; rw [berSz_two (by omega) hb], by show p + 2 ≤ _; omega, ?_⟩
      show berL l[p + 1].toNat = _
      rw [berL_two (by omega) hb, berSz_two (by omega) hb, hd, (List.getElem_cons_drop hq).symm, UInt8.ofNat_toNat, e129]
      rfl
    · rw [List.getElem?_eq_none (by omega), Option.map_none, berRead_cut1] at h; exact absurd h (by decide)
  by_cases h3 : l[p].toNat = 130
  · have e130 : l[p] = 130 := UInt8.toNat_inj.1 h3
    rw [h3] at h ⊢
    by_cases hq : p + 2 < l.length
    · have hq1 : p + 1 < l.length := by omega
      rw [List.getElem?_eq_getElem hq, List.getElem?_eq_getElem hq1, Option.map_some, Option.map_some] at h ⊢
      have hb := l[p + 1].toNat_lt
      have hc := l[p + 2].toNat_lt
      by_cases h4 : l[p + 1].toNat = 0
      · rw [h4, berRead_bad2] at h; exact absurd h (by decide)
      rw [berRead_three (by omega)]
      have d1 : (256 * l[p + 1].toNat + l[p + 2].toNat) / 256 = l[p + 1].toNat := by omega
      have d2 : (256 * l[p + 1].toNat + l[p + 2].toNat) % 256 = l[p + 2].toNat := by omega
      refine ⟨by show 256 * l[p + 1].toNat + l[p + 2].toNat < _; omega, by show p + 3 = _; rw [berSz_three (by omega)], by show p + 3 ≤ _; omega, ?_⟩
      show berL (256 * l[p + 1].toNat + l[p + 2].toNat) = _
      rw [berL_three (by omega), berSz_three (by omega), d1, d2, hd, (List.getElem_cons_drop hq1).symm, (List.getElem_cons_drop hq).symm, UInt8.ofNat_toNat, UInt8.ofNat_toNat, e130]
      rfl
    · rw [List.getElem?_eq_none (show l.length ≤ p + 2 by omega), Option.map_none, berRead_cut2] at h; exact absurd h (by decide)
  rw [berRead_no _ _ (by omega)] at h
  exact absurd h (by decide)

theorem ofNat_less {m n : Nat} (hm : m < 256) (hn : n < 256) : decide (UInt8.ofNat m < UInt8.ofNat n) = decide (m < n) := by
  rw [Bool.eq_iff_iff, decide_eq_true_eq, decide_eq_true_eq, UInt8.lt_iff_toNat_lt, ofNat_val hm, ofNat_val hn]
theorem ofNat_same {m n : Nat} (hm : m < 256) (hn : n < 256) : (UInt8.ofNat m == UInt8.ofNat n) = decide (m = n) := by
  rw [Bool.eq_iff_iff, decide_eq_true_eq, beq_iff_eq, ← UInt8.toNat_inj, ofNat_val hm, ofNat_val hn]
theorem ofNat_less_lit {m k : Nat} (hm : m < 256) (hk : k < 256) : decide (UInt8.ofNat m < UInt8.ofNat k) = decide (m < k) := ofNat_less hm hk

/-- Lengths' bytes compare as the lengths do. -/
theorem ber_less {m n : Nat} (hm : m < 65536) (hn : n < 65536) : Op.bytesLess (berL m) (berL n) = decide (m < n) := by
  have e129 : (129 : UInt8) = UInt8.ofNat 129 := rfl
  have e130 : (130 : UInt8) = UInt8.ofNat 130 := rfl
  by_cases m1 : m < 128
  · rw [berL_one m1]
    by_cases n1 : n < 128
    · rw [berL_one n1]
      simp only [Op.bytesLess]
      rw [ofNat_less (by omega) (by omega)]
      simp
    · by_cases n2 : n < 256
      · rw [berL_two (by omega) n2]
        simp only [Op.bytesLess]
        rw [e129, ofNat_less (by omega) (by omega), ofNat_same (by omega) (by omega)]
        rw [Bool.eq_iff_iff]; simp; omega
      · rw [berL_three (by omega)]
        simp only [Op.bytesLess]
        rw [e130, ofNat_less (by omega) (by omega), ofNat_same (by omega) (by omega)]
        rw [Bool.eq_iff_iff]; simp; omega
  by_cases m2 : m < 256
  · rw [berL_two (by omega) m2]
    by_cases n1 : n < 128
    · rw [berL_one n1]
      simp only [Op.bytesLess]
      rw [e129, ofNat_less (by omega) (by omega), ofNat_same (by omega) (by omega)]
      rw [Bool.eq_iff_iff]; simp; omega
    · by_cases n2 : n < 256
      · rw [berL_two (by omega) n2]
        simp only [Op.bytesLess]
        rw [ofNat_less (by omega) (by omega)]
        simp
      · rw [berL_three (by omega)]
        simp only [Op.bytesLess]
        rw [e129, e130, ofNat_less (by omega) (by omega), ofNat_same (by omega) (by omega)]
        rw [Bool.eq_iff_iff]; simp; omega
  · rw [berL_three (by omega)]
    by_cases n1 : n < 128
    · rw [berL_one n1]
      simp only [Op.bytesLess]
      rw [e130, ofNat_less (by omega) (by omega), ofNat_same (by omega) (by omega)]
      rw [Bool.eq_iff_iff]; simp; omega
    · by_cases n2 : n < 256
      · rw [berL_two (by omega) n2]
        simp only [Op.bytesLess]
        rw [e129, e130, ofNat_less (by omega) (by omega), ofNat_same (by omega) (by omega)]
        rw [Bool.eq_iff_iff]; simp; omega
      · rw [berL_three (by omega)]
        simp only [Op.bytesLess]
        rw [ofNat_less (by omega) (by omega), ofNat_less (by omega) (by omega), ofNat_same (by omega) (by omega)]
        rw [Bool.eq_iff_iff]; simp; omega

/-- No length's bytes begin another one's. -/
theorem ber_apart {m n : Nat} (hm : m < 65536) (hn : n < 65536) (k : Nat) (hk : k = min (berL m).length (berL n).length) : (berL m).take k = (berL n).take k ↔ m = n := by
  constructor
  · intro h
    have e1 := berGet_back [] ((berL m).drop k) hm
    have hx : ∀ u v : List UInt8, k ≤ u.length → k ≤ v.length → k = min u.length v.length → u.take k = v.take k → u = v.take u.length ∨ v = u.take v.length := by
      intro u v hu hv hk h
      by_cases g : u.length ≤ v.length
      · left
        rw [show k = u.length by omega, List.take_length] at h
        exact h
      · right
        rw [show k = v.length by omega, List.take_length] at h
        exact h.symm
    rcases hx _ _ (by omega) (by omega) hk h with g | g
    · have a := berGet_back [] ((berL n).drop (berL m).length) hm
      have b := berGet_back [] [] hn
      have c : [] ++ berL m ++ (berL n).drop (berL m).length = [] ++ berL n ++ [] := by
        rw [List.nil_append, List.nil_append, List.append_nil]
        conv => lhs; lhs; rw [g]
        exact List.take_append_drop _ _
      rw [c, b] at a
      injection a with a _
      exact a.symm
    · have a := berGet_back [] ((berL m).drop (berL n).length) hn
      have b := berGet_back [] [] hm
      have c : [] ++ berL n ++ (berL m).drop (berL n).length = [] ++ berL m ++ [] := by
        rw [List.nil_append, List.nil_append, List.append_nil]
        conv => lhs; lhs; rw [g]
        exact List.take_append_drop _ _
      rw [c, b] at a
      injection a with a _
  · rintro rfl; rfl

end Go.Proofs.YtmobillfeldcjaaDoor
